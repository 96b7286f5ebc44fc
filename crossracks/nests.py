"""Nests: square racks that are halls of smaller racks, whose racks amid are nests again."""

from crossracks.chains import call_racks
from crossracks.entries import first_wrong
from crossracks.errors import NoTurns, Wide
from crossracks.partings import parted


def is_plain(lines, small, depth):
    return depth == 0 or lines <= small


def racks_for(lines, small):
    return (lines + small - 1) // small


# Each rack has at most small lines on a side, so by small racks amid the turns can always be parted.
def hall_nest(lines, small, turns, depth):
    many = racks_for(lines, small)
    firsts = [[] for i in range(many)]
    lasts = [[] for j in range(many)]
    within = [[] for k in range(small)]
    numbers = parted([(one // small, other // small) for one, other in turns], small)
    for turn, k in zip(turns, numbers):
        start = divmod(turn[0], small)
        goal = divmod(turn[1], small)
        firsts[start[0]].append((start[1], k))
        lasts[goal[0]].append((k, goal[1]))
        within[k].append((start[0], goal[0]))
    amids = [right_nest(many, small, some, depth - 1) for some in within]
    return ("hall", lines, small, [sorted(bars) for bars in firsts], amids, [sorted(bars) for bars in lasts])


# The turns must be right: those within a hall always are, as a parting gives no rack one number twice.
def right_nest(lines, small, turns, depth):
    if is_plain(lines, small, depth):
        return ("rack", lines, sorted(turns))
    return hall_nest(lines, small, turns, depth)


def nest_of(lines, small, turns, depth=6):
    place = first_wrong(turns, lines, lines)
    if place is not None:
        raise NoTurns(place)
    return right_nest(lines, small, turns, depth)


# The callers of right calls rise, so the first call that is not narrow has the least one.
def refuse_wide(hall, calls):
    for call in calls:
        if len(call_racks(hall, call)) > 2:
            raise Wide(call[0])


def amid_nest(hall, calls, k, small, depth=6):
    through = [call for call in calls if call[2] == k]
    refuse_wide(hall, through)
    turns = [tuple(call_racks(hall, call)) for call in through]
    return nest_of(max(hall[0], hall[3]), small, turns, depth)
