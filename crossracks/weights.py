"""Weights of racks: how many of the pairs have each of them."""


def weight(pairs, side, rack):
    return len([pair for pair in pairs if pair[side] == rack])


# By racks, so that those which no pair has need not be gone through.
def side_weights(pairs, side):
    found = {}
    for pair in pairs:
        found[pair[side]] = found.get(pair[side], 0) + 1
    return found


def greatest_weight(pairs):
    every = list(side_weights(pairs, 0).values()) + list(side_weights(pairs, 1).values())
    return max(every, default=0)
