"""Turning about: calls are moved along a chain, so that a way is left for one more."""

from crossracks.calling import refuse_busy, refuse_engaged, refuse_wrong, with_call
from crossracks.chains import chain_in, chain_out, moved, moves_of
from crossracks.halls import place_in, racks_of
from crossracks.lines import in_bits, left_open, out_bits
from crossracks.ways import ways


def idle_racks(racks, bits):
    return [k for k in racks if (bits >> k) & 1 == 0]


# The exchange on the chain from the out rack frees the line from a to it, the other one the line from the in rack to b:
# so with each chain the rack amid is told that it leaves a way.
def chain_chosen(hall, calls, start, goal, a, b):
    far = chain_out(hall, calls, goal, a, b)
    near = chain_in(hall, calls, start, a, b)
    if far is not None and (near is None or len(far) <= len(near)):
        return (far, a)
    if near is not None:
        return (near, b)
    return None


def room_by_chain(hall, calls, start, goal, shut):
    ready = left_open(hall, shut)
    goal_idle = idle_racks(ready, out_bits(hall, calls)[goal])
    for a in idle_racks(ready, in_bits(hall, calls)[start]):
        # No b is like a: without ways no rack amid is idle at both.
        for b in goal_idle:
            chosen = chain_chosen(hall, calls, start, goal, a, b)
            if chosen is not None:
                return (moves_of(calls, chosen[0], a, b), chosen[1])
    return None


def room(hall, calls, caller, ends, shut=0):
    free = ways(hall, calls, caller, ends, shut)
    if free != []:
        return ([], free[0])
    goals = racks_of(hall, ends)
    found = None
    # Chains lead to one out rack alone.
    if len(goals) == 1:
        found = room_by_chain(hall, calls, place_in(hall, caller)[0], goals[0], shut)
    if found is None:
        refuse_engaged(hall, calls, caller, ends, shut)
    return found


def joined_turning(hall, calls, caller, ends, shut=0):
    refuse_wrong(hall, caller, ends)
    refuse_busy(calls, caller, ends)
    found = room(hall, calls, caller, ends, shut)
    behind = moved(hall, calls, found[0])
    return (found[0], with_call(behind, caller, ends, found[1]))
