import copy
import itertools
import random
import unittest

from crossracks.errors import NoHall
from crossracks.halls import is_call, is_hall, place_in, place_out, racks_of, read_hall, shown_hall
from samples import HALLS, STRANGE

MOSTS = (12, 12, 24, 12, 12)


def with_one(things, place, thing):
    """The tuple with another thing at one place."""
    return things[:place] + (thing,) + things[place + 1:]


class IsHall(unittest.TestCase):  # 1.1
    def test_each_bound_and_one_beyond(self):
        for place, most in enumerate(MOSTS):
            for number in range(-2, 30):
                hall = with_one((3, 3, 3, 3, 3), place, number)
                self.assertIs(is_hall(hall), 1 <= number <= most, hall)

    def test_all_at_their_bounds(self):
        self.assertIs(is_hall((1, 1, 1, 1, 1)), True)
        self.assertIs(is_hall(MOSTS), True)
        self.assertIs(is_hall((0, 0, 0, 0, 0)), False)
        self.assertIs(is_hall((13, 13, 25, 13, 13)), False)

    def test_very_great_numbers(self):
        for place in range(5):
            self.assertIs(is_hall(with_one((3, 3, 3, 3, 3), place, 10 ** 3000)), False)
            self.assertIs(is_hall(with_one((3, 3, 3, 3, 3), place, -10 ** 3000)), False)

    def test_other_lengths(self):
        for length in (0, 1, 2, 3, 4, 6, 7, 10):
            self.assertIs(is_hall((2,) * length), False, length)

    def test_a_list_is_no_hall(self):
        self.assertIs(is_hall([2, 3, 4, 5, 1]), False)

    def test_strange_things_at_each_place(self):
        for place, thing in itertools.product(range(5), STRANGE):
            self.assertIs(is_hall(with_one((2, 2, 2, 2, 2), place, thing)), False, (place, thing))

    def test_strange_things_alone(self):
        for thing in STRANGE + [2, 0, -1]:
            self.assertIs(is_hall(thing), False, thing)


class Places(unittest.TestCase):  # 1.2
    def test_rack_by_rack(self):
        for hall in HALLS:
            for tell, racks, size in ((place_in, hall[0], hall[1]), (place_out, hall[3], hall[4])):
                told = [tell(hall, number) for number in range(racks * size)]
                self.assertEqual(told, list(itertools.product(range(racks), range(size))), hall)

    def test_first_and_last(self):
        hall = (2, 3, 4, 5, 7)
        self.assertEqual(place_in(hall, 0), (0, 0))
        self.assertEqual(place_in(hall, 2), (0, 2))
        self.assertEqual(place_in(hall, 3), (1, 0))
        self.assertEqual(place_in(hall, 5), (1, 2))
        self.assertEqual(place_out(hall, 0), (0, 0))
        self.assertEqual(place_out(hall, 6), (0, 6))
        self.assertEqual(place_out(hall, 7), (1, 0))
        self.assertEqual(place_out(hall, 34), (4, 6))

    def test_tuples_are_told(self):
        self.assertIsInstance(place_in((2, 3, 4, 5, 7), 4), tuple)
        self.assertIsInstance(place_out((2, 3, 4, 5, 7), 4), tuple)


class IsCall(unittest.TestCase):  # 1.4
    hall = (2, 3, 4, 5, 2)
    right = (4, (0, 1, 7), 2)

    def test_right_ones(self):
        for call in (self.right, (0, (0,), 0), (5, (9,), 3), (0, tuple(range(10)), 3)):
            self.assertIs(is_call(self.hall, call), True, call)

    def test_callers_at_and_beyond_the_bounds(self):
        for caller in range(-3, 12):
            self.assertIs(is_call(self.hall, (caller, (0,), 0)), 0 <= caller < 6, caller)

    def test_ends_at_and_beyond_the_bounds(self):
        for end in range(-3, 14):
            self.assertIs(is_call(self.hall, (0, (end,), 0)), 0 <= end < 10, end)
        self.assertIs(is_call(self.hall, (0, (-1, 3), 0)), False)
        self.assertIs(is_call(self.hall, (0, (3, 10), 0)), False)
        self.assertIs(is_call(self.hall, (0, (3, 4, 10 ** 3000), 0)), False)

    def test_racks_amid_at_and_beyond_the_bounds(self):
        for k in range(-3, 30):
            self.assertIs(is_call(self.hall, (0, (0,), k)), 0 <= k < 4, k)

    def test_ends_that_do_not_rise(self):
        for ends in ((1, 0), (7, 0), (0, 2, 1), (3, 0, 4), (9, 8, 7)):
            self.assertIs(is_call(self.hall, (0, ends, 0)), False, ends)

    def test_ends_that_come_twice(self):
        for ends in ((0, 0), (3, 3), (0, 1, 1), (1, 1, 2), (2, 3, 2)):
            self.assertIs(is_call(self.hall, (0, ends, 0)), False, ends)

    def test_no_ends(self):
        self.assertIs(is_call(self.hall, (0, (), 0)), False)

    def test_ends_that_are_no_tuple(self):
        for ends in ([0], [0, 1], 0, {0: 1}, {0}, range(2), "01", None):
            self.assertIs(is_call(self.hall, (0, ends, 0)), False, ends)

    def test_a_list_is_no_call(self):
        self.assertIs(is_call(self.hall, list(self.right)), False)

    def test_other_lengths(self):
        for call in ((), (0,), (0, (0,)), self.right + (0,), self.right * 2):
            self.assertIs(is_call(self.hall, call), False, call)

    def test_strange_things_at_each_place(self):
        for place, thing in itertools.product((0, 2), STRANGE):
            self.assertIs(is_call(self.hall, with_one(self.right, place, thing)), False, (place, thing))
        for thing in STRANGE:
            if thing != (1,):
                self.assertIs(is_call(self.hall, with_one(self.right, 1, thing)), False, thing)

    def test_strange_things_among_the_ends(self):
        for place, thing in itertools.product(range(3), STRANGE):
            ends = with_one((0, 1, 7), place, thing)
            self.assertIs(is_call(self.hall, (0, ends, 0)), False, ends)

    def test_strange_things_alone(self):
        for thing in STRANGE + [0, 1]:
            self.assertIs(is_call(self.hall, thing), False, thing)

    def test_each_hall_has_its_own_bounds(self):
        for hall in HALLS:
            ins, callers, amid, outs, ends = hall
            last = (ins * callers - 1, tuple(range(outs * ends)), amid - 1)
            self.assertIs(is_call(hall, last), True, hall)
            self.assertIs(is_call(hall, with_one(last, 0, ins * callers)), False, hall)
            self.assertIs(is_call(hall, with_one(last, 1, (outs * ends,))), False, hall)
            self.assertIs(is_call(hall, with_one(last, 2, amid)), False, hall)


class RacksOf(unittest.TestCase):  # 1.4
    def test_each_once_rising(self):
        hall = (2, 3, 4, 5, 3)
        self.assertEqual(racks_of(hall, (0,)), [0])
        self.assertEqual(racks_of(hall, (0, 1, 2)), [0])
        self.assertEqual(racks_of(hall, (2, 3)), [0, 1])
        self.assertEqual(racks_of(hall, (14,)), [4])
        self.assertEqual(racks_of(hall, (0, 1, 7, 8, 14)), [0, 2, 4])

    def test_lists_and_tuples_in_any_order(self):
        hall = (2, 3, 4, 5, 3)
        for ends in itertools.permutations((1, 13, 6, 0, 14)):
            self.assertEqual(racks_of(hall, ends), [0, 2, 4])
            self.assertEqual(racks_of(hall, list(ends)), [0, 2, 4])

    def test_every_two_racks_rise(self):
        hall = (1, 12, 24, 12, 1)
        for ends in itertools.permutations(range(12), 2):
            self.assertEqual(racks_of(hall, ends), sorted(ends))

    def test_against_a_walk_along_the_racks(self):
        chance = random.Random(14)
        for hall in HALLS:
            racks, size = hall[3], hall[4]
            for many in range(1, racks * size + 1, 5):
                ends = chance.sample(range(racks * size), many)
                wanted = [j for j in range(racks) if any(j * size <= end < (j + 1) * size for end in ends)]
                self.assertEqual(racks_of(hall, ends), wanted)

    def test_what_is_handed_in_stays_and_what_is_told_is_new(self):  # 0.2
        hall = (2, 3, 4, 5, 1)
        ends = [4, 0, 2]
        told = racks_of(hall, ends)
        self.assertEqual(ends, [4, 0, 2])
        told.append(9)
        self.assertEqual(ends, [4, 0, 2])
        self.assertEqual(racks_of(hall, ends), [0, 2, 4])
        rising = [0, 2, 4]
        self.assertIsNot(racks_of(hall, rising), rising)


class Unchanged(unittest.TestCase):  # 0.2
    def test_lists_asked_about_stay(self):
        for thing in ([2, 3, 4, 5, 1], (1, [2], 3, 4, 5), [0, [1, 0], 2]):
            before = copy.deepcopy(thing)
            is_hall(thing)
            is_call((2, 3, 4, 5, 1), thing)
            self.assertEqual(thing, before)
        ends = [1, 0]
        is_call((2, 3, 4, 5, 1), (0, ends, 0))
        self.assertEqual(ends, [1, 0])


class WrittenHalls(unittest.TestCase):  # 1.8
    def test_as_the_document_writes_it(self):
        self.assertEqual(shown_hall((2, 3, 4, 5, 1)), "2x3 4 5x1")
        self.assertEqual(read_hall("2x3 4 5x1"), (2, 3, 4, 5, 1))
        self.assertEqual(shown_hall((12, 11, 24, 10, 12)), "12x11 24 10x12")

    def test_what_is_written_is_read_again(self):
        for hall in itertools.product((1, 9, 12), (2, 10), (1, 3, 24), (1, 7, 12), (1, 12)):
            told = read_hall(shown_hall(hall))
            self.assertEqual(told, hall)
            self.assertIsInstance(told, tuple)

    def refuse(self, text):
        with self.subTest(text=text), self.assertRaises(NoHall):
            read_hall(text)

    def test_a_nought_ahead(self):
        for text in ("02x3 4 5x1", "2x03 4 5x1", "2x3 04 5x1", "2x3 4 05x1", "2x3 4 5x01", "002x3 4 5x1"):
            self.refuse(text)

    def test_more_than_three_figures(self):
        for text in ("0002x3 4 5x1", "1000x3 4 5x1", "2x3 0004 5x1", "2x3 4 5x" + "1" * 3000, "2x3 4 5x" + "1" * 9000):
            self.refuse(text)

    def test_blanks_too_many_or_too_few(self):
        for text in (
            " 2x3 4 5x1", "2x3 4 5x1 ", "2x3  4 5x1", "2x3 4  5x1", "2 x3 4 5x1", "2x 3 4 5x1",
            "2x34 5x1", "2x3 45x1", "2x345x1", "2x3\t4 5x1", "2x3 4\n5x1", "2x3 4 5x1\n", "\n2x3 4 5x1",
            " ", "  ", "   ",
        ):
            self.refuse(text)

    def test_other_signs(self):
        for text in (
            "2X3 4 5x1", "2*3 4 5x1", "2x3,4,5x1", "2x3 4 5x1;", "-2x3 4 5x1", "+2x3 4 5x1", "2x3 4.0 5x1",
            "2x3 0x4 5x1", "2x3 4 5x1_1", "2x3 1_0 5x1", "2x3 4e0 5x1", "ax3 4 5x1", "2x3 x 5x1", "(2x3 4 5x1)",
            "\u0662x3 4 5x1", "2x3 \uff14 5x1", "\u00b2x3 4 5x1", "2\u00d73 4 5x1", "2x3\u00a04 5x1",
        ):
            self.refuse(text)

    def test_nothing_where_a_number_is_due(self):
        for text in ("", "x3 4 5x1", "2x 4 5x1", "2x3  5x1", "2x3 4 x1", "2x3 4 5x", "x  x", "2x3 4 ", " 4 5x1"):
            self.refuse(text)

    def test_too_many_or_too_few_numbers(self):
        for text in ("2 4 5x1", "2x3 4 5", "2x3x1 4 5x1", "2x3 4x1 5x1", "2x3 4 5x1x1", "2x3 4", "2x3 4 5x1 1",
                     "2x3", "4", "2x3 5x1"):
            self.refuse(text)

    def test_numbers_beyond_the_bounds(self):
        for place, most in enumerate(MOSTS):
            for number in (0, most + 1, 100, 999):
                self.refuse(shown_hall(with_one((3, 3, 3, 3, 3), place, number)))
            self.assertEqual(read_hall(shown_hall(with_one((3, 3, 3, 3, 3), place, most)))[place], most)


if __name__ == "__main__":
    unittest.main()
