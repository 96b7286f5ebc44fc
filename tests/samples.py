"""Halls, calls and wrong things that the tests have in common."""

import random

HALLS = [
    (1, 1, 1, 1, 1),
    (2, 3, 4, 5, 1),
    (3, 2, 4, 2, 5),
    (1, 12, 24, 12, 1),
    (12, 1, 5, 1, 12),
    (4, 4, 7, 4, 4),
    (12, 12, 24, 12, 12),
]


class Stranger:
    """A thing of a kind that the program knows nothing of."""


# What is no whole number, nor a tuple of whole numbers that could be a call or a hall.
STRANGE = [
    None, True, False, "", "1", "11111", 1.0, float("nan"), float("inf"), 1j, b"1", bytearray(b"1"),
    [], [1], [[1], [[2]]], {}, {1: 1}, (), (1,), ((1,),), (None,), set(), {1}, frozenset([1]),
    range(5), Stranger(), Stranger, len, lambda: 1, Ellipsis, NotImplemented, iter([1]), ValueError(),
]


def right_calls(hall, seed):
    """Right calls of the hall, made by counting lines one by one rather than by the program."""
    ins, callers, amid, outs, ends = hall
    chance = random.Random(f"{hall} {seed}")
    waiting = list(range(outs * ends))
    chance.shuffle(waiting)
    held = set()
    calls = []
    for caller in range(ins * callers):
        if not waiting or chance.random() < 0.2:
            continue
        asked = sorted(waiting[:chance.randint(1, 4)])
        k = chance.randrange(amid)
        needed = {("in", caller // callers, k)} | {("out", k, end // ends) for end in asked}
        if needed & held:
            continue
        held |= needed
        waiting = [end for end in waiting if end not in asked]
        calls.append((caller, tuple(asked), k))
    return calls


def many_right_calls():
    """Tuples (hall, calls): several right calls of each hall, those of none among them."""
    found = [(hall, []) for hall in HALLS]
    for hall in HALLS:
        found.extend((hall, right_calls(hall, seed)) for seed in range(12))
    return found
