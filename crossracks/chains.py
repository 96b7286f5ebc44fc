"""Chains of calls by two racks amid, and moves of calls from one rack amid to another."""

from crossracks.calling import call_of
from crossracks.errors import NoMove
from crossracks.halls import is_whole, place_in, racks_of
from crossracks.lines import is_right


# The in rack of a call, and behind it its out racks.
def call_racks(hall, call):
    return [place_in(hall, call[0])[0]] + racks_of(hall, call[1])


def calls_by_in(hall, calls, k):
    return dict([(call_racks(hall, call)[0], call) for call in calls if call[2] == k])


def calls_by_out(hall, calls, k):
    found = {}
    for call in calls:
        if call[2] == k:
            for rack in racks_of(hall, call[1]):
                found[rack] = call
    return found


# Side 0 is that of the in racks, side 1 that of the out racks.
def chain_from(hall, calls, side, rack, a, b):
    known = (calls_by_in(hall, calls, b), calls_by_out(hall, calls, a))
    chain = []
    call = known[side].get(rack)
    while call is not None and call[0] not in chain:
        racks = call_racks(hall, call)
        # More than an in rack and one out rack: the call is not narrow.
        if len(racks) > 2:
            return None
        chain.append(call[0])
        side = 1 - side
        call = known[side].get(racks[side])
    return chain


def chain_out(hall, calls, rack, a, b):
    return chain_from(hall, calls, 1, rack, a, b)


def chain_in(hall, calls, rack, a, b):
    return chain_from(hall, calls, 0, rack, a, b)


def moves_of(calls, chain, a, b):
    moves = []
    for caller in chain:
        k = call_of(calls, caller)[2]
        moves.append((caller, k, b if k == a else a))
    return moves


def refuse_move(hall, calls, goals, move):
    call = call_of(calls, move[0])
    if call is None:
        raise NoMove("a mover has no call")
    if move[0] in goals:
        raise NoMove("two moves have one caller")
    if call[2] != move[1]:
        raise NoMove("a mover's call does not go by the rack amid that it is to leave")
    if not is_whole(move[2], 0, hall[2] - 1):
        raise NoMove("a call is to go by what is no rack amid of the hall")


def moved(hall, calls, moves):
    goals = {}
    for move in moves:
        refuse_move(hall, calls, goals, move)
        goals[move[0]] = move[2]
    behind = [(call[0], call[1], goals.get(call[0], call[2])) for call in calls]
    if not is_right(hall, behind):
        raise NoMove("what comes of the moves is not right calls")
    return behind
