"""Halls, calls and wrong things that the tests have in common."""

import collections
import copy
import itertools
import random

HALLS = [
    (1, 1, 1, 1, 1),
    (2, 3, 4, 5, 1),
    (3, 2, 4, 2, 5),
    (1, 12, 24, 12, 1),
    (12, 1, 5, 1, 12),
    (4, 4, 7, 4, 4),
    (12, 12, 24, 12, 12),
]


class Stranger:
    """A thing of a kind that the program knows nothing of."""


# What is no whole number, nor a tuple of whole numbers that could be a call or a hall.
STRANGE = [
    None, True, False, "", "1", "11111", 1.0, float("nan"), float("inf"), 1j, b"1", bytearray(b"1"),
    [], [1], [[1], [[2]]], {}, {1: 1}, (), (1,), ((1,),), (None,), set(), {1}, frozenset([1]),
    range(5), Stranger(), Stranger, len, lambda: 1, Ellipsis, NotImplemented, iter([1]), ValueError(),
]


def right_calls(hall, seed):
    """Right calls of the hall, made by counting lines one by one rather than by the program."""
    ins, callers, amid, outs, ends = hall
    chance = random.Random(f"{hall} {seed}")
    waiting = list(range(outs * ends))
    chance.shuffle(waiting)
    held = set()
    calls = []
    for caller in range(ins * callers):
        if not waiting or chance.random() < 0.2:
            continue
        asked = sorted(waiting[:chance.randint(1, 4)])
        k = chance.randrange(amid)
        needed = {("in", caller // callers, k)} | {("out", k, end // ends) for end in asked}
        if needed & held:
            continue
        held |= needed
        waiting = [end for end in waiting if end not in asked]
        calls.append((caller, tuple(asked), k))
    return calls


def many_right_calls():
    """Tuples (hall, calls): several right calls of each hall, those of none among them."""
    found = [(hall, []) for hall in HALLS]
    for hall in HALLS:
        found.extend((hall, right_calls(hall, seed)) for seed in range(12))
    return found


class Alike:
    """A thing that claims to be like any other."""

    __hash__ = None

    def __eq__(self, other):
        return True

    def __ne__(self, other):
        return False


def lines_of(hall, caller, ends, k):
    """The lines that a call of this caller and these ends holds by k, counted by hand."""
    return {("in", caller // hall[1], k)} | {("out", k, end // hall[4]) for end in ends}


def held_lines_of(hall, calls):
    """All lines that calls hold, as a list: a line held by two comes twice."""
    return [line for call in calls for line in lines_of(hall, *call)]


def ways_by_hand(hall, calls, caller, ends, shut=0):
    held = set(held_lines_of(hall, calls))
    return [k for k in range(hall[2])
            if shut // 2 ** k % 2 == 0 and not held & lines_of(hall, caller, ends, k)]


def shuts_of(hall):
    """Shut racks amid by bits: none, some, all."""
    amid = hall[2]
    every = 2 ** amid - 1
    return sorted({0, 1, 2 ** (amid - 1), every // 3, every - every // 3, every // 2, every - 1, every})


def asks_of(hall, seed, many=4):
    """Tuples (caller, ends), the ends in any order, idle or not."""
    chance = random.Random(f"asks {hall} {seed}")
    ins, callers, amid, outs, ends = hall
    found = []
    for turn in range(many):
        asked = chance.sample(range(outs * ends), min(outs * ends, chance.randint(1, 4)))
        found.append((chance.randrange(ins * callers), asked))
    return found


def many_asks():
    """Tuples (hall, calls, caller, ends): right calls and what may be asked for beside them."""
    return [(hall, calls, caller, ends)
            for seed, (hall, calls) in enumerate(many_right_calls())
            for caller, ends in asks_of(hall, seed)]


def narrow_calls(hall, seed):
    """Right calls of one out rack each."""
    ins, callers, amid, outs, ends = hall
    chance = random.Random(f"narrow {hall} {seed}")
    waiting = set(range(outs * ends))
    held = set()
    calls = []
    for caller in range(ins * callers):
        rack = chance.randrange(outs)
        idle = sorted(waiting & set(range(rack * ends, (rack + 1) * ends)))
        k = chance.randrange(amid)
        asked = sorted(chance.sample(idle, min(len(idle), chance.randint(1, 2))))
        needed = lines_of(hall, caller, asked, k)
        if asked and not needed & held:
            held |= needed
            waiting -= set(asked)
            calls.append((caller, tuple(asked), k))
    return calls


def right_lists(hall, most_ends):
    """Every list of right calls of a small hall, each call of at most so many ends."""
    ins, callers, amid, outs, ends = hall
    asks = [asked for many in range(1, most_ends + 1)
            for asked in itertools.combinations(range(outs * ends), many)]
    found = [([], frozenset(), frozenset())]
    for caller in range(ins * callers):
        for calls, held, busy in list(found):
            for asked, k in itertools.product(asks, range(amid)):
                needed = lines_of(hall, caller, asked, k)
                if not needed & held and not busy & set(asked):
                    found.append((calls + [(caller, asked, k)], held | needed, busy | set(asked)))
    return [calls for calls, held, busy in found]


def is_idle(calls, caller, ends):
    """Whether no call has the caller or one of the ends."""
    return all(call[0] != caller and not set(call[1]) & set(ends) for call in calls)


def holder_by_hand(hall, calls, line):
    """The call that holds a line, ("in", i, k) or ("out", k, j), or None."""
    for caller, ends, k in calls:
        if line == ("in", caller // hall[1], k) or line in [("out", k, end // hall[4]) for end in ends]:
            return (caller, ends, k)
    return None


def chain_by_hand(hall, calls, at_out, rack, a, b):
    """The chain from an out rack or an in rack, walked line by line, or None."""
    found = []
    while True:
        call = holder_by_hand(hall, calls, ("out", a, rack) if at_out else ("in", rack, b))
        if call is None or call[0] in found:
            return found
        goals = {end // hall[4] for end in call[1]}
        if len(goals) > 1:
            return None
        found.append(call[0])
        rack = call[0] // hall[1] if at_out else min(goals)
        at_out = not at_out


def is_right_by_hand(hall, calls):
    """Whether no line and no end comes twice."""
    lines = held_lines_of(hall, calls)
    ends = [end for call in calls for end in call[1]]
    return len(lines) == len(set(lines)) and len(ends) == len(set(ends))


def crowded_calls(hall, seed, most_ends):
    """Right calls of at most so many ends each, by whichever racks amid are left, until few more are."""
    ins, callers, amid, outs, ends = hall
    chance = random.Random(f"crowded {hall} {seed} {most_ends}")
    waiting = list(range(outs * ends))
    chance.shuffle(waiting)
    held = set()
    calls = []
    for caller in chance.sample(range(ins * callers), ins * callers):
        asked = tuple(sorted(waiting[:chance.randint(1, most_ends)]))
        for k in chance.sample(range(amid), amid):
            needed = lines_of(hall, caller, asked, k)
            if asked and not needed & held and chance.random() < 0.95:
                held |= needed
                waiting = waiting[len(asked):]
                calls.append((caller, asked, k))
                break
    return sorted(calls)


def many_pairs():
    """Lists of pairs: none, one, alike ones, rings, stars, whole grids, many of few racks and of all."""
    grid = list(itertools.product(range(4), range(3)))
    ring = [(i, j % 6) for i in range(6) for j in (i, i + 1)]
    star = [(3, j) for j in range(9)]
    found = [
        [], [(0, 0)], [(31, 31)], [(0, 31), (31, 0)], [(5, 2)] * 2, [(5, 2)] * 7, [(1, 1)] * 64, grid, grid * 3, ring,
        ring[:-1], star, [(j, i) for i, j in star], [(i, i) for i in range(32)], [(i, 31 - i) for i in range(32)] * 6,
        list(itertools.product(range(14), range(14, 28))),
    ]
    for seed in range(60):
        chance = random.Random(f"pairs {seed}")
        ins, outs = chance.choice((1, 2, 4, 8, 32)), chance.choice((1, 3, 5, 32))
        many = chance.choice((2, 5, 12, 30, 75, 200))
        found.append([(chance.randrange(ins), chance.randrange(outs)) for turn in range(many)])
        # Racks from the greatest number down.
        found.append([(31 - i, 31 - j) for i, j in found[-1]])
    return found


def few_pairs(ins, outs, most):
    """Every list of at most so many pairs of so many racks."""
    every = list(itertools.product(range(ins), range(outs)))
    return [list(pairs) for many in range(most + 1) for pairs in itertools.product(every, repeat=many)]


def weights_by_hand(pairs):
    """A dict of the weights of all racks that some pair has, by tuples (side, rack)."""
    return collections.Counter((side, pair[side]) for pair in pairs for side in (0, 1))


def check_list_is_new(case, tell, *things):
    """A list that is told, changed by the asker, changes neither what was handed in nor what is told later."""
    before = copy.deepcopy(things)
    told = tell(*things)
    wanted = list(told)
    told.append(99)
    case.assertEqual(tell(*things), wanted)
    told.clear()
    case.assertEqual(tell(*things), wanted)
    case.assertEqual(things, before)


def check_lists_are_new(case, tell, *things):
    """As check_list_is_new, of every list within what is told, and of two answers told at once."""
    before = copy.deepcopy(things)
    told = tell(*things)
    wanted = copy.deepcopy(told)
    other = tell(*things)
    for spoilt in lists_within(told):
        spoilt.append(99)
        spoilt.reverse()
        case.assertEqual(other, wanted)
        case.assertEqual(tell(*things), wanted)
    for spoilt in lists_within(told):
        spoilt.clear()
    case.assertEqual(other, wanted)
    case.assertEqual(tell(*things), wanted)
    case.assertEqual(things, before)


def lists_within(thing):
    """All lists that a thing of lists and tuples holds, itself too."""
    if not isinstance(thing, (list, tuple)):
        return []
    inner = [one for part in thing for one in lists_within(part)]
    return inner + [thing] if isinstance(thing, list) else inner


def deep_list(many):
    """A list within a list, so many times."""
    deep = []
    for turn in range(many):
        deep = [deep]
    return deep


def wrong_entries(firsts, seconds):
    """Things of any kind that are no tuple of a number below firsts and a number below seconds."""
    wrong_numbers = [-1, -10 ** 3000, 10 ** 3000] + [
        None, True, False, "", "0", "1", 0.0, 1.0, float("nan"), 0j, b"0", [], [0], {}, {0: 0}, (), (0,), set(),
        frozenset(), range(1), Stranger(), Alike(), int, len, Ellipsis, deep_list(3000)]
    found = list(STRANGE) + [Alike(), deep_list(3000), 0, 1, -1, [0, 0], ["0", "0"], "00", {0: 0, 1: 1}, range(2)]
    found += [(0, 0, 0), (0, 0, None), (0,), (None, None), ((0, 0), (0, 0)), ((0, 0),), [(0, 0)]]
    found += [(firsts, 0), (0, seconds), (firsts, seconds), (firsts + 1, 0), (0, seconds + 1), (-1, -1)]
    found += [(firsts, seconds - 1), (firsts - 1, seconds)]
    for wrong in wrong_numbers:
        found += [(wrong, 0), (0, wrong), (wrong, seconds - 1), (firsts - 1, wrong)]
    return found


def wrong_place_by_hand(things, firsts, seconds):
    """The place of the first entry that is none or has a number of an entry ahead on the same side, or None."""
    for place, thing in enumerate(things):
        if type(thing) is not tuple or len(thing) != 2 or {type(thing[0]), type(thing[1])} != {int}:
            return place
        if not 0 <= thing[0] < firsts or not 0 <= thing[1] < seconds:
            return place
        if any(thing[0] == ahead[0] or thing[1] == ahead[1] for ahead in things[:place]):
            return place
    return None


def right_entries(firsts, seconds, many, seed):
    """A list of tuples of two numbers, each number once on its side, in any order."""
    chance = random.Random(f"entries {firsts} {seconds} {many} {seed}")
    many = min(many, firsts, seconds)
    return list(zip(chance.sample(range(firsts), many), chance.sample(range(seconds), many)))


def every_entries(firsts, seconds):
    """All sorted lists of such tuples."""
    return [list(zip(ones, others)) for many in range(min(firsts, seconds) + 1)
            for ones in itertools.combinations(range(firsts), many)
            for others in itertools.permutations(range(seconds), many)]


def spoilt_entries(firsts, seconds):
    """Lists of entries of which one or some are wrong, at every place."""
    found = [[wrong] for wrong in wrong_entries(firsts, seconds)]
    right = right_entries(firsts, seconds, 6, "spoilt")
    for wrong in wrong_entries(firsts, seconds):
        found += [right[:place] + [wrong] + right[place:] for place in range(len(right) + 1)]
    for place, entry in enumerate(right):
        for later in range(place + 1, len(right) + 1):
            # The same entry once more, or its first or its second number alone.
            found.append(right[:later] + [entry] + right[later:])
            for other in right[later:]:
                found.append(right[:later] + [(entry[0], other[1])] + right[later:])
                found.append(right[:later] + [(other[0], entry[1])] + right[later:])
    for seed in range(200):
        chance = random.Random(f"spoilt {firsts} {seconds} {seed}")
        found.append([(chance.randrange(firsts), chance.randrange(seconds)) for turn in range(firsts + 1)])
    return found


def nest_bars(nest, where=()):
    """All bars of a nest, each as a tuple that tells where it is; walked by the form that 6.2 tells."""
    if nest[0] == "rack":
        return [where + ("rack", bar) for bar in nest[2]]
    firsts, amids, lasts = nest[3:]
    found = [where + ("first", i, bar) for i, bars in enumerate(firsts) for bar in bars]
    found += [where + ("last", j, bar) for j, bars in enumerate(lasts) for bar in bars]
    return found + [bar for k, amid in enumerate(amids) for bar in nest_bars(amid, where + (k,))]


def nest_walk(nest, line, where=()):
    """A tuple (line out, bars) of a line in, gone bar by bar as 6.3 tells it; (None, []) where it has no bar."""
    if nest[0] == "rack":
        found = [bar for bar in nest[2] if bar[0] == line]
        return (found[0][1], [where + ("rack", found[0])]) if found else (None, [])
    small, firsts, amids, lasts = nest[2:]
    begin = [bar for bar in firsts[line // small] if bar[0] == line % small]
    if not begin:
        return (None, [])
    k = begin[0][1]
    j, bars = nest_walk(amids[k], line // small, where + (k,))
    (finish,) = [bar for bar in lasts[j] if bar[0] == k]
    ends = [where + ("first", line // small, begin[0]), where + ("last", j, finish)]
    return (j * small + finish[1], ends + bars)


def nest_sizes(lines, small, depth):
    """The lines of the nests at each depth, from the outermost on, as 6.2 tells them."""
    sizes = [lines]
    while depth > 0 and sizes[-1] > small:
        sizes.append(-(-sizes[-1] // small))
        depth -= 1
    return sizes


def many_turns():
    """Tuples (lines, small, turns): without turns, some, all; lines that small divides and that it does not."""
    found = []
    for lines, small in [(1, 2), (2, 2), (3, 2), (4, 2), (5, 2), (7, 3), (8, 8), (9, 8), (9, 3), (10, 4), (16, 2),
                         (17, 2), (23, 5), (27, 3), (33, 2), (36, 6), (49, 7), (50, 7), (63, 4), (64, 2), (64, 3),
                         (64, 4), (64, 8)]:
        found += [(lines, small, []), (lines, small, [(lines - 1, 0)]), (lines, small, [(0, lines - 1)])]
        found += [(lines, small, [(line, line) for line in range(lines)])]
        found += [(lines, small, [(line, lines - 1 - line) for line in range(lines)][::-1])]
        found += [(lines, small, right_entries(lines, lines, many, many)) for many in (lines // 2, lines - 1, lines)]
    return found
