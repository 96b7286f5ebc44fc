import copy
import itertools
import random
import unittest

from crossracks.lines import bit_list, bits_of, in_bits, is_right, out_bits
from samples import HALLS, many_right_calls


def all_calls(hall):
    """Every call that the hall can have."""
    ins, callers, amid, outs, ends = hall
    asks = []
    for many in range(1, outs * ends + 1):
        asks.extend(itertools.combinations(range(outs * ends), many))
    return list(itertools.product(range(ins * callers), asks, range(amid)))


def go_together(hall, one, other):
    """Whether two calls, told in this order, break no law of right calls."""
    rise = one[0] < other[0]
    ends_apart = not set(one[1]) & set(other[1])
    if one[2] != other[2]:
        return rise and ends_apart
    same_in = one[0] // hall[1] == other[0] // hall[1]
    same_out = {end // hall[4] for end in one[1]} & {end // hall[4] for end in other[1]}
    return rise and ends_apart and not same_in and not same_out


class Bits(unittest.TestCase):  # 1.7
    def test_bits_of(self):
        self.assertEqual(bits_of([]), 0)
        self.assertEqual(bits_of([0]), 1)
        self.assertEqual(bits_of([63]), 2 ** 63)
        self.assertEqual(bits_of([0, 63]), 2 ** 63 + 1)
        self.assertEqual(bits_of(list(range(64))), 2 ** 64 - 1)
        self.assertEqual(bits_of([5, 1, 3]), 42)

    def test_bit_list(self):
        self.assertEqual(bit_list(0), [])
        self.assertEqual(bit_list(1), [0])
        self.assertEqual(bit_list(2 ** 63), [63])
        self.assertEqual(bit_list(2 ** 64 - 1), list(range(64)))
        self.assertEqual(bit_list(42), [1, 3, 5])
        self.assertEqual(bit_list(63), [0, 1, 2, 3, 4, 5])

    def test_places_in_any_order(self):
        for places in itertools.permutations([0, 7, 31, 62, 63]):
            bits = bits_of(list(places))
            self.assertEqual(bits, 1 + 2 ** 7 + 2 ** 31 + 2 ** 62 + 2 ** 63)
            self.assertEqual(bit_list(bits), [0, 7, 31, 62, 63])

    def test_each_is_the_other_way_about(self):
        chance = random.Random(17)
        for many in range(65):
            places = chance.sample(range(64), many)
            handed = list(places)
            self.assertEqual(bit_list(bits_of(handed)), sorted(places))
            self.assertEqual(handed, places)

    def test_a_new_list_each_time(self):  # 0.2
        bit_list(5).append(9)
        self.assertEqual(bit_list(5), [0, 2])


class LinesByBits(unittest.TestCase):  # 1.3, 1.7
    def test_no_calls(self):
        for hall in HALLS:
            self.assertEqual(in_bits(hall, []), [0] * hall[0])
            self.assertEqual(out_bits(hall, []), [0] * hall[3])

    def test_calls_of_several_ends(self):
        hall = (2, 3, 4, 5, 2)
        calls = [(0, (0, 1), 3), (1, (2, 4, 9), 0), (4, (5, 6), 3), (5, (3,), 1)]
        self.assertTrue(is_right(hall, calls))
        self.assertEqual(in_bits(hall, calls), [0b1001, 0b1010])
        self.assertEqual(out_bits(hall, calls), [0b1000, 0b0011, 0b1001, 0b1000, 0b0001])

    def test_a_bit_is_set_just_where_a_call_holds_the_line(self):
        for hall, calls in many_right_calls():
            ins, callers, amid, outs, ends = hall
            held_in = {(call[0] // callers, call[2]) for call in calls}
            held_out = {(end // ends, call[2]) for call in calls for end in call[1]}
            self.assertEqual(
                in_bits(hall, calls), [sum(2 ** k for k in range(amid) if (i, k) in held_in) for i in range(ins)])
            self.assertEqual(
                out_bits(hall, calls), [sum(2 ** k for k in range(amid) if (j, k) in held_out) for j in range(outs)])

    def test_what_is_handed_in_stays_and_what_is_told_is_new(self):  # 0.2
        hall = (2, 3, 4, 5, 2)
        calls = [(0, (0, 1), 3), (4, (5, 6), 3)]
        before = copy.deepcopy(calls)
        for tell in (in_bits, out_bits):
            wanted = list(tell(hall, calls))
            tell(hall, calls).clear()
            self.assertEqual(tell(hall, calls), wanted)
        is_right(hall, calls)
        self.assertEqual(calls, before)


class IsRight(unittest.TestCase):  # 1.5
    hall = (2, 3, 4, 5, 2)

    def check(self, calls, wanted):
        before = copy.deepcopy(calls)
        self.assertIs(is_right(self.hall, calls), wanted, calls)
        self.assertEqual(calls, before)

    def test_no_calls_and_one(self):
        self.check([], True)
        self.check([(0, (0,), 0)], True)
        self.check([(5, tuple(range(10)), 3)], True)

    def test_right_ones(self):
        self.check([(0, (0,), 0), (1, (2,), 1), (2, (4,), 2)], True)
        self.check([(0, (0, 1, 4), 0), (3, (2, 6), 0)], True)
        self.check([(0, (0,), 0), (1, (1,), 1)], True)
        for hall, calls in many_right_calls():
            self.assertIs(is_right(hall, calls), True, (hall, calls))

    def test_callers_that_do_not_rise(self):
        self.check([(1, (0,), 0), (0, (2,), 1)], False)
        self.check([(0, (0,), 0), (3, (2,), 1), (2, (4,), 2)], False)
        self.check([(2, (0,), 0), (2, (2,), 1)], False)

    def test_an_end_in_two_calls(self):
        self.check([(0, (0,), 0), (3, (0,), 1)], False)
        self.check([(0, (0, 4), 0), (3, (2, 4), 1)], False)
        self.check([(0, (4,), 0), (1, (2,), 1), (3, (4,), 2)], False)

    def test_a_line_from_an_in_rack_held_by_two(self):
        self.check([(0, (0,), 2), (2, (4,), 2)], False)
        self.check([(3, (0,), 2), (4, (2,), 1), (5, (4,), 2)], False)
        self.check([(2, (0,), 2), (3, (4,), 2)], True)

    def test_a_line_to_an_out_rack_held_by_two(self):
        self.check([(0, (0,), 2), (3, (1,), 2)], False)
        self.check([(0, (0, 4), 2), (3, (2, 5), 2)], False)
        self.check([(0, (0,), 2), (3, (1,), 3)], True)
        self.check([(0, (1,), 2), (3, (2,), 2)], True)

    def test_lines_of_the_two_rows_are_not_taken_for_one_another(self):
        self.check([(0, (2,), 0), (3, (0,), 0)], True)
        self.check([(0, (2,), 0), (3, (0,), 1)], True)
        self.check([(0, (2,), 1), (3, (0,), 0)], True)

    def test_all_lists_of_two_or_three_calls_of_small_halls(self):
        for hall in ((1, 2, 2, 2, 1), (2, 1, 2, 1, 2), (2, 2, 1, 2, 1), (3, 1, 1, 3, 1)):
            every = all_calls(hall)
            for many in (2, 3):
                for calls in itertools.product(every, repeat=many):
                    pairs = itertools.combinations(calls, 2)
                    wanted = all(go_together(hall, one, other) for one, other in pairs)
                    self.assertIs(is_right(hall, list(calls)), wanted, (hall, calls))


if __name__ == "__main__":
    unittest.main()
