"""The lines that calls hold: told by bits, and whether each is held by one call alone; racks amid left open."""

from crossracks.halls import place_in, racks_of, rises


def bits_of(places):
    bits = 0
    for place in places:
        bits |= 1 << place
    return bits


def bit_list(bits):
    return [place for place in range(bits.bit_length()) if (bits >> place) & 1 == 1]


# Bits beyond the racks amid of the hall shut nothing.
def left_open(hall, shut):
    return [k for k in range(hall[2]) if (shut >> k) & 1 == 0]


def in_bits(hall, calls):
    found = [0] * hall[0]
    for call in calls:
        found[place_in(hall, call[0])[0]] |= 1 << call[2]
    return found


def out_bits(hall, calls):
    found = [0] * hall[3]
    for call in calls:
        for rack in racks_of(hall, call[1]):
            found[rack] |= 1 << call[2]
    return found


# The row stands ahead, so that a line from an in rack is never like one to an out rack.
def held_lines(hall, call):
    lines = [(0, place_in(hall, call[0])[0], call[2])]
    for rack in racks_of(hall, call[1]):
        lines.append((1, call[2], rack))
    return lines


def are_unlike(some):
    return len(set(some)) == len(some)


def is_right(hall, calls):
    ends = []
    lines = []
    for call in calls:
        ends.extend(call[1])
        lines.extend(held_lines(hall, call))
    return rises([call[0] for call in calls]) and are_unlike(ends) and are_unlike(lines)
