"""Paths through nests by their bars, and how many bars and crossings a nest has."""

from crossracks.nests import is_plain, racks_for


# Side 0 goes from the first numbers of bars to the second ones, side 1 the other way about.
def beyond(bars, number, side):
    for bar in bars:
        if bar[side] == number:
            return bar[1 - side]
    return None


def led(nest, line, side):
    # What is no line of the nest has no bar.
    if not 0 <= line < nest[1]:
        return None
    if nest[0] == "rack":
        return beyond(nest[2], line, side)
    near = nest[3] if side == 0 else nest[5]
    far = nest[5] if side == 0 else nest[3]
    start = divmod(line, nest[2])
    k = beyond(near[start[0]], start[1], side)
    rack = None if k is None else led(nest[4][k], start[0], side)
    place = None if rack is None else beyond(far[rack], k, side)
    return None if place is None else rack * nest[2] + place


def went_to(nest, line):
    return led(nest, line, 0)


def came_from(nest, line):
    return led(nest, line, 1)


def turns_of(nest):
    every = [(line, went_to(nest, line)) for line in range(nest[1])]
    return [turn for turn in every if turn[1] is not None]


def closed_bars(nest):
    if nest[0] == "rack":
        return len(nest[2])
    ends = sum([len(bars) for bars in nest[3] + nest[5]])
    return ends + sum([closed_bars(amid) for amid in nest[4]])


def crossings(lines, small, depth=6):
    if is_plain(lines, small, depth):
        return lines * lines
    many = racks_for(lines, small)
    return 2 * many * small * small + small * crossings(many, small, depth - 1)
