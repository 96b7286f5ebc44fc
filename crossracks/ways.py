"""The ways by which a caller can come to ends, and the calls that hold them."""

from crossracks.halls import are_ends, is_whole, place_in, racks_of
from crossracks.lines import are_unlike, left_open


def is_caller(hall, thing):
    return is_whole(thing, 0, hall[0] * hall[1] - 1)


def is_ends(hall, thing):
    if not isinstance(thing, (list, tuple)) or len(thing) == 0:
        return False
    return are_ends(hall, thing) and are_unlike(thing)


def holds_needed(hall, call, start, goals):
    if place_in(hall, call[0])[0] == start:
        return True
    return any([rack in goals for rack in racks_of(hall, call[1])])


def holders(hall, calls, caller, ends):
    start = place_in(hall, caller)[0]
    goals = racks_of(hall, ends)
    found = [[] for k in range(hall[2])]
    # The callers of right calls rise, so those of each rack amid do, too.
    for call in calls:
        if holds_needed(hall, call, start, goals):
            found[call[2]].append(call[0])
    return found


def ways(hall, calls, caller, ends, shut=0):
    held = holders(hall, calls, caller, ends)
    return [k for k in left_open(hall, shut) if held[k] == []]


def least_ended(hall, calls, caller, ends, shut=0):
    held = holders(hall, calls, caller, ends)
    # Of several as short min tells the first, which is that of the least rack amid.
    return min([held[k] for k in left_open(hall, shut)], key=len, default=None)
