"""Partings of pairs: each gets a number, so that no two of one number have a rack in common."""

from crossracks.errors import TooFull
from crossracks.weights import greatest_weight, side_weights


def refuse_full(pairs, ways):
    for side in range(2):
        weights = side_weights(pairs, side)
        for rack in sorted(weights):
            if weights[rack] > ways:
                raise TooFull(side, rack, weights[rack])


# What is taken is told by two dicts, one for each side: by tuples (rack, number) the place of the pair there.
def take(taken, place, pair, number):
    for side in range(2):
        taken[side][(pair[side], number)] = place


def leave(taken, pair, number):
    for side in range(2):
        taken[side].pop((pair[side], number))


# A rack has at most as many pairs as there are ways, so for one more of them a number is always left.
def first_left(places, rack):
    number = 0
    while (rack, number) in places:
        number += 1
    return number


# The out rack has no pair with b, so the chain never comes back to it, and the exchange on it is right.
def chain_along(pairs, taken, rack, a, b):
    chain = []
    side = 1
    place = taken[side].get((rack, a))
    while place is not None:
        chain.append(place)
        side = 1 - side
        place = taken[side].get((pairs[place][side], (b, a)[side]))
    return chain


def exchange(pairs, taken, numbers, chain, a, b):
    # All are taken out first: neighbours on the chain take each other's numbers.
    for place in chain:
        leave(taken, pairs[place], numbers[place])
    for place in chain:
        numbers[place] = b if numbers[place] == a else a
        take(taken, place, pairs[place], numbers[place])


def parted(pairs, ways):
    refuse_full(pairs, ways)
    taken = ({}, {})
    numbers = []
    for place, pair in enumerate(pairs):
        a = first_left(taken[0], pair[0])
        b = first_left(taken[1], pair[1])
        # The chain comes to in racks by pairs with a alone, so never to that of this pair, which has none.
        exchange(pairs, taken, numbers, chain_along(pairs, taken, pair[1], a, b), a, b)
        numbers.append(a)
        take(taken, place, pair, a)
    return numbers


def touching(pairs):
    # Parted by the greatest weight, a rack that has it has one pair with each number.
    numbers = parted(pairs, greatest_weight(pairs))
    return [place for place, number in enumerate(numbers) if number == 0]
