"""Halves of pairs: each rack has, but for one, as many pairs in the one half as in the other."""


# Two and two at each rack of the side: where those of each two get unlike signs, at most one pair is left over.
def mates_of(pairs, side):
    found = [None] * len(pairs)
    alone = {}
    for place, pair in enumerate(pairs):
        other = alone.get(pair[side])
        if other is None:
            alone[pair[side]] = place
        else:
            found[place] = other
            found[other] = place
            alone[pair[side]] = None
    return found


# Rings of pairs put together are even, as their two sides come by turns, so a sign that is there already fits.
def give_signs(signs, mates, first):
    waiting = [(first, 0)]
    while waiting != []:
        step = waiting.pop()
        place = step[0]
        if signs[place] is None:
            signs[place] = step[1]
            waiting.extend([(known[place], 1 - step[1]) for known in mates if known[place] is not None])


def halves(pairs):
    mates = (mates_of(pairs, 0), mates_of(pairs, 1))
    signs = [None] * len(pairs)
    for place in range(len(pairs)):
        give_signs(signs, mates, place)
    return signs
