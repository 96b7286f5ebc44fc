"""Halls, calls and wrong things that the tests have in common."""

import collections
import copy
import itertools
import random

HALLS = [
    (1, 1, 1, 1, 1),
    (2, 3, 4, 5, 1),
    (3, 2, 4, 2, 5),
    (1, 12, 24, 12, 1),
    (12, 1, 5, 1, 12),
    (4, 4, 7, 4, 4),
    (12, 12, 24, 12, 12),
]


class Stranger:
    """A thing of a kind that the program knows nothing of."""


# What is no whole number, nor a tuple of whole numbers that could be a call or a hall.
STRANGE = [
    None, True, False, "", "1", "11111", 1.0, float("nan"), float("inf"), 1j, b"1", bytearray(b"1"),
    [], [1], [[1], [[2]]], {}, {1: 1}, (), (1,), ((1,),), (None,), set(), {1}, frozenset([1]),
    range(5), Stranger(), Stranger, len, lambda: 1, Ellipsis, NotImplemented, iter([1]), ValueError(),
]


def right_calls(hall, seed):
    """Right calls of the hall, made by counting lines one by one rather than by the program."""
    ins, callers, amid, outs, ends = hall
    chance = random.Random(f"{hall} {seed}")
    waiting = list(range(outs * ends))
    chance.shuffle(waiting)
    held = set()
    calls = []
    for caller in range(ins * callers):
        if not waiting or chance.random() < 0.2:
            continue
        asked = sorted(waiting[:chance.randint(1, 4)])
        k = chance.randrange(amid)
        needed = {("in", caller // callers, k)} | {("out", k, end // ends) for end in asked}
        if needed & held:
            continue
        held |= needed
        waiting = [end for end in waiting if end not in asked]
        calls.append((caller, tuple(asked), k))
    return calls


def many_right_calls():
    """Tuples (hall, calls): several right calls of each hall, those of none among them."""
    found = [(hall, []) for hall in HALLS]
    for hall in HALLS:
        found.extend((hall, right_calls(hall, seed)) for seed in range(12))
    return found


class Alike:
    """A thing that claims to be like any other."""

    __hash__ = None

    def __eq__(self, other):
        return True

    def __ne__(self, other):
        return False


def lines_of(hall, caller, ends, k):
    """The lines that a call of this caller and these ends holds by k, counted by hand."""
    return {("in", caller // hall[1], k)} | {("out", k, end // hall[4]) for end in ends}


def held_lines_of(hall, calls):
    """All lines that calls hold, as a list: a line held by two comes twice."""
    return [line for call in calls for line in lines_of(hall, *call)]


def ways_by_hand(hall, calls, caller, ends, shut=0):
    held = set(held_lines_of(hall, calls))
    return [k for k in range(hall[2])
            if shut // 2 ** k % 2 == 0 and not held & lines_of(hall, caller, ends, k)]


def shuts_of(hall):
    """Shut racks amid by bits: none, some, all."""
    amid = hall[2]
    every = 2 ** amid - 1
    return sorted({0, 1, 2 ** (amid - 1), every // 3, every - every // 3, every // 2, every - 1, every})


def asks_of(hall, seed, many=4):
    """Tuples (caller, ends), the ends in any order, idle or not."""
    chance = random.Random(f"asks {hall} {seed}")
    ins, callers, amid, outs, ends = hall
    found = []
    for turn in range(many):
        asked = chance.sample(range(outs * ends), min(outs * ends, chance.randint(1, 4)))
        found.append((chance.randrange(ins * callers), asked))
    return found


def many_asks():
    """Tuples (hall, calls, caller, ends): right calls and what may be asked for beside them."""
    return [(hall, calls, caller, ends)
            for seed, (hall, calls) in enumerate(many_right_calls())
            for caller, ends in asks_of(hall, seed)]


def narrow_calls(hall, seed):
    """Right calls of one out rack each."""
    ins, callers, amid, outs, ends = hall
    chance = random.Random(f"narrow {hall} {seed}")
    waiting = set(range(outs * ends))
    held = set()
    calls = []
    for caller in range(ins * callers):
        rack = chance.randrange(outs)
        idle = sorted(waiting & set(range(rack * ends, (rack + 1) * ends)))
        k = chance.randrange(amid)
        asked = sorted(chance.sample(idle, min(len(idle), chance.randint(1, 2))))
        needed = lines_of(hall, caller, asked, k)
        if asked and not needed & held:
            held |= needed
            waiting -= set(asked)
            calls.append((caller, tuple(asked), k))
    return calls


def right_lists(hall, most_ends):
    """Every list of right calls of a small hall, each call of at most so many ends."""
    ins, callers, amid, outs, ends = hall
    asks = [asked for many in range(1, most_ends + 1)
            for asked in itertools.combinations(range(outs * ends), many)]
    found = [([], frozenset(), frozenset())]
    for caller in range(ins * callers):
        for calls, held, busy in list(found):
            for asked, k in itertools.product(asks, range(amid)):
                needed = lines_of(hall, caller, asked, k)
                if not needed & held and not busy & set(asked):
                    found.append((calls + [(caller, asked, k)], held | needed, busy | set(asked)))
    return [calls for calls, held, busy in found]


def is_idle(calls, caller, ends):
    """Whether no call has the caller or one of the ends."""
    return all(call[0] != caller and not set(call[1]) & set(ends) for call in calls)


def holder_by_hand(hall, calls, line):
    """The call that holds a line, ("in", i, k) or ("out", k, j), or None."""
    for caller, ends, k in calls:
        if line == ("in", caller // hall[1], k) or line in [("out", k, end // hall[4]) for end in ends]:
            return (caller, ends, k)
    return None


def chain_by_hand(hall, calls, at_out, rack, a, b):
    """The chain from an out rack or an in rack, walked line by line, or None."""
    found = []
    while True:
        call = holder_by_hand(hall, calls, ("out", a, rack) if at_out else ("in", rack, b))
        if call is None or call[0] in found:
            return found
        goals = {end // hall[4] for end in call[1]}
        if len(goals) > 1:
            return None
        found.append(call[0])
        rack = call[0] // hall[1] if at_out else min(goals)
        at_out = not at_out


def is_right_by_hand(hall, calls):
    """Whether no line and no end comes twice."""
    lines = held_lines_of(hall, calls)
    ends = [end for call in calls for end in call[1]]
    return len(lines) == len(set(lines)) and len(ends) == len(set(ends))


def crowded_calls(hall, seed, most_ends):
    """Right calls of at most so many ends each, by whichever racks amid are left, until few more are."""
    ins, callers, amid, outs, ends = hall
    chance = random.Random(f"crowded {hall} {seed} {most_ends}")
    waiting = list(range(outs * ends))
    chance.shuffle(waiting)
    held = set()
    calls = []
    for caller in chance.sample(range(ins * callers), ins * callers):
        asked = tuple(sorted(waiting[:chance.randint(1, most_ends)]))
        for k in chance.sample(range(amid), amid):
            needed = lines_of(hall, caller, asked, k)
            if asked and not needed & held and chance.random() < 0.95:
                held |= needed
                waiting = waiting[len(asked):]
                calls.append((caller, asked, k))
                break
    return sorted(calls)


def many_pairs():
    """Lists of pairs: none, one, alike ones, rings, stars, whole grids, many of few racks and of all."""
    grid = list(itertools.product(range(4), range(3)))
    ring = [(i, j % 6) for i in range(6) for j in (i, i + 1)]
    star = [(3, j) for j in range(9)]
    found = [
        [], [(0, 0)], [(31, 31)], [(0, 31), (31, 0)], [(5, 2)] * 2, [(5, 2)] * 7, [(1, 1)] * 64, grid, grid * 3, ring,
        ring[:-1], star, [(j, i) for i, j in star], [(i, i) for i in range(32)], [(i, 31 - i) for i in range(32)] * 6,
        list(itertools.product(range(14), range(14, 28))),
    ]
    for seed in range(60):
        chance = random.Random(f"pairs {seed}")
        ins, outs = chance.choice((1, 2, 4, 8, 32)), chance.choice((1, 3, 5, 32))
        many = chance.choice((2, 5, 12, 30, 75, 200))
        found.append([(chance.randrange(ins), chance.randrange(outs)) for turn in range(many)])
        # Racks from the greatest number down.
        found.append([(31 - i, 31 - j) for i, j in found[-1]])
    return found


def few_pairs(ins, outs, most):
    """Every list of at most so many pairs of so many racks."""
    every = list(itertools.product(range(ins), range(outs)))
    return [list(pairs) for many in range(most + 1) for pairs in itertools.product(every, repeat=many)]


def weights_by_hand(pairs):
    """A dict of the weights of all racks that some pair has, by tuples (side, rack)."""
    return collections.Counter((side, pair[side]) for pair in pairs for side in (0, 1))


def check_list_is_new(case, tell, *things):
    """A list that is told, changed by the asker, changes neither what was handed in nor what is told later."""
    before = copy.deepcopy(things)
    told = tell(*things)
    wanted = list(told)
    told.append(99)
    case.assertEqual(tell(*things), wanted)
    told.clear()
    case.assertEqual(tell(*things), wanted)
    case.assertEqual(things, before)
