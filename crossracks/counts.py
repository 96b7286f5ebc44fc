"""How many lines are held of those that a call could go by, and how many calls go by each rack amid."""

from crossracks.halls import place_in, racks_of
from crossracks.lines import bit_list, bits_of, in_bits, left_open, out_bits


def loads(hall, calls):
    found = [0] * hall[2]
    for call in calls:
        found[call[2]] += 1
    return found


def count_of(hall, calls, caller, ends, shut=0):
    ready = left_open(hall, shut)
    # Lines of shut racks amid are held, too, but no new call could go by them.
    kept = bits_of(ready)
    near = in_bits(hall, calls)[place_in(hall, caller)[0]]
    outs = out_bits(hall, calls)
    far = [len(bit_list(outs[rack] & kept)) for rack in racks_of(hall, ends)]
    return (len(bit_list(near & kept)), far, len(ready))
