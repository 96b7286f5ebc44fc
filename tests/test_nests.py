import itertools
import random
import unittest

from crossracks.errors import HallError, NoTurns, Wide
from crossracks.nests import amid_nest, nest_of
from crossracks.paths import turns_of
from crossracks.tables import at_once
from samples import (
    check_lists_are_new, crowded_calls, every_entries, many_right_calls, many_turns, narrow_calls, nest_bars,
    nest_sizes, nest_walk, right_entries, spoilt_entries, wrong_entries, wrong_place_by_hand)


def are_bars(bars, firsts, seconds):
    """Whether bars are a sorted list of tuples of two numbers, each once on its side."""
    if type(bars) is not list or bars != sorted(bars):
        return False
    return wrong_place_by_hand(bars, firsts, seconds) is None


class NestCase(unittest.TestCase):
    def check_form(self, nest, sizes, small):  # 6.2
        self.assertIs(type(nest), tuple)
        if len(sizes) == 1:
            self.assertEqual(nest[:2], ("rack", sizes[0]))
            self.assertEqual(len(nest), 3)
            self.assertTrue(are_bars(nest[2], sizes[0], sizes[0]), nest)
            return
        self.assertEqual(nest[:3], ("hall", sizes[0], small))
        self.assertEqual(len(nest), 6)
        for rows in (nest[3], nest[5]):
            self.assertIs(type(rows), list)
            self.assertEqual(len(rows), sizes[1])
            for bars in rows:
                self.assertTrue(are_bars(bars, small, small), nest)
        self.assertIs(type(nest[4]), list)
        self.assertEqual(len(nest[4]), small)
        for amid in nest[4]:
            self.check_form(amid, sizes[1:], small)

    def check_turns(self, nest, turns):  # 6.3
        goals = dict(turns)
        used = []
        for line in range(nest[1]):
            goal, bars = nest_walk(nest, line)
            self.assertEqual(goal, goals.get(line), (nest, line))
            used += bars
        # No bar is gone by twice, and there are none but these.
        self.assertEqual(sorted(map(repr, used)), sorted(map(repr, nest_bars(nest))))

    def check(self, lines, small, turns, *depth):
        before = list(turns)
        nest = nest_of(lines, small, turns, *depth)
        self.assertEqual(turns, before)
        self.check_form(nest, nest_sizes(lines, small, *(depth or (6,))), small)
        self.check_turns(nest, turns)


class NestOf(NestCase):  # 6.2, 6.3
    def test_depth_0(self):
        self.assertEqual(nest_of(5, 2, [(4, 0), (0, 3), (2, 2)], 0), ("rack", 5, [(0, 3), (2, 2), (4, 0)]))
        self.assertEqual(nest_of(64, 8, [], 0), ("rack", 64, []))
        self.assertEqual(nest_of(64, 2, [(63, 63)], depth=0), ("rack", 64, [(63, 63)]))

    def test_lines_not_greater_than_small(self):
        for small in range(2, 9):
            for lines in range(1, small + 1):
                turns = [(lines - 1, 0)]
                for depth in range(7):
                    self.assertEqual(nest_of(lines, small, turns, depth), ("rack", lines, turns))
                self.assertEqual(nest_of(lines, small, turns), ("rack", lines, turns))

    def test_one_line_more_than_small(self):
        for small in range(2, 9):
            nest = nest_of(small + 1, small, [(small, 0)])
            self.assertEqual(nest[:3], ("hall", small + 1, small))
            ((place, k),) = nest[3][1]
            self.assertEqual((place, nest[3][0]), (0, []))
            self.assertEqual((nest[5][0], nest[5][1]), ([(k, 0)], []))
            wanted = [("rack", 2, [(1, 0)] if other == k else []) for other in range(small)]
            self.assertEqual(nest[4], wanted)

    def test_without_turns(self):
        self.assertEqual(nest_of(3, 2, []), ("hall", 3, 2, [[], []], [("rack", 2, [])] * 2, [[], []]))
        inner = ("hall", 3, 2, [[], []], [("rack", 2, [])] * 2, [[], []])
        self.assertEqual(nest_of(5, 2, []), ("hall", 5, 2, [[], [], []], [inner] * 2, [[], [], []]))
        self.assertEqual(nest_of(5, 2, [], 1), ("hall", 5, 2, [[], [], []], [("rack", 3, [])] * 2, [[], [], []]))

    def test_every_turns_of_few_lines(self):
        for lines in range(1, 5):
            for turns in every_entries(lines, lines):
                for small, depth in itertools.product((2, 3), range(4)):
                    self.check(lines, small, turns, depth)
                    self.check(lines, small, turns[::-1], depth)

    def test_every_whole_turns_of_six_lines(self):
        for goals in itertools.permutations(range(6)):
            self.check(6, 2, list(enumerate(goals)))
            self.check(6, 3, list(enumerate(goals))[::-1], 1)

    def test_of_many(self):
        for lines, small, turns in many_turns():
            self.check(lines, small, turns)
            for depth in (0, 1, 2, 3, 6):
                self.check(lines, small, turns, depth)

    def test_of_all_sizes(self):
        for lines, small in itertools.product(range(1, 65), range(2, 9)):
            chance = random.Random(f"sizes {lines} {small}")
            turns = right_entries(lines, lines, chance.choice((lines, lines, chance.randint(0, lines))), small)
            self.check(lines, small, turns, chance.randint(1, 6))

    def test_the_default_depth(self):
        for lines, small, turns in many_turns():
            self.assertEqual(nest_of(lines, small, turns), nest_of(lines, small, turns, 6))
            self.assertEqual(nest_of(lines, small, turns), nest_of(lines, small, turns, depth=6))

    def test_what_is_told_is_new(self):  # 0.2
        for turns in ([], [(4, 0)], [(0, 0), (1, 2), (2, 1), (3, 4), (4, 3)]):
            for depth in (0, 1, 2, 6):
                check_lists_are_new(self, nest_of, 5, 2, turns, depth)
        check_lists_are_new(self, nest_of, 2, 2, [(1, 0), (0, 1)])


class RefusedNoTurns(unittest.TestCase):  # 6.1
    def refuse(self, lines, small, turns, *depth):
        before = list(turns)
        with self.assertRaises(NoTurns) as taken:
            nest_of(lines, small, turns, *depth)
        self.assertEqual(len(turns), len(before))
        self.assertTrue(all(one is other for one, other in zip(turns, before)))
        self.assertIs(type(taken.exception.place), int)
        return taken.exception.place

    def test_of_any_kind(self):
        for lines, small, depth in ((7, 2, 6), (7, 2, 0), (7, 8, 3), (64, 3, 1)):
            for wrong in wrong_entries(lines, lines):
                self.assertEqual(self.refuse(lines, small, [wrong], depth), 0)
                self.assertEqual(self.refuse(lines, small, [(3, 4), (2, 1), wrong, (0, 0)], depth), 2)

    def test_lines_that_fill_up_the_last_rack_are_none(self):
        # Three racks of two lines each have six, but the nest has five.
        self.assertEqual(self.refuse(5, 2, [(0, 0), (5, 1)]), 1)
        self.assertEqual(self.refuse(5, 2, [(0, 0), (1, 5)]), 1)

    def test_a_line_of_an_entry_ahead(self):
        self.assertEqual(self.refuse(7, 2, [(3, 3), (1, 1), (3, 2)]), 2)
        self.assertEqual(self.refuse(7, 2, [(3, 3), (1, 1), (0, 1), (0, 0)]), 2)
        self.assertEqual(self.refuse(7, 2, [(3, 3), (1, 1), (1, 1)], 0), 2)

    def test_a_line_in_may_be_a_line_out_elsewhere(self):
        self.assertEqual(nest_of(4, 4, [(3, 1), (1, 3), (2, 2)]), ("rack", 4, [(1, 3), (2, 2), (3, 1)]))

    def test_the_first_of_several(self):
        self.assertEqual(self.refuse(7, 2, [(1, 1), None, (1, 1), "x"]), 1)
        self.assertEqual(self.refuse(7, 2, [(1, 1), (1, 2), None]), 1)

    def test_at_every_place(self):
        for turns in spoilt_entries(9, 9):
            wanted = wrong_place_by_hand(turns, 9, 9)
            if wanted is not None:
                self.assertEqual(self.refuse(9, 2, turns), wanted)
                self.assertEqual(self.refuse(9, 3, turns, 0), wanted)

    def test_it_is_a_hall_error(self):
        with self.assertRaises(HallError):
            nest_of(3, 2, [None])


# Of these calls those of callers 2 and 6 are not narrow; caller 4's has two ends, but of one rack.
WIDE_HALL = (4, 2, 4, 3, 3)
WIDE_CALLS = [(0, (0,), 1), (2, (3, 6), 0), (3, (4,), 1), (4, (1, 2), 2), (6, (5, 8), 3), (7, (7,), 2)]


class AmidNest(NestCase):  # 6.6
    def check_amid(self, hall, calls, k, small, *depth):
        before = list(calls)
        nest = amid_nest(hall, calls, k, small, *depth)
        self.assertEqual(calls, before)
        lines = max(hall[0], hall[3])
        self.check_form(nest, nest_sizes(lines, small, *(depth or (6,))), small)
        self.check_turns(nest, [(call[0] // hall[1], call[1][0] // hall[4]) for call in calls if call[2] == k])

    def wide(self, hall, calls, k):
        before = list(calls)
        with self.assertRaises(Wide) as taken:
            amid_nest(hall, calls, k, 2)
        self.assertEqual(calls, before)
        return taken.exception.caller

    def test_with_calls(self):
        self.assertEqual(amid_nest(WIDE_HALL, WIDE_CALLS, 1, 4), ("rack", 4, [(0, 0), (1, 1)]))
        self.assertEqual(amid_nest(WIDE_HALL, WIDE_CALLS, 1, 2, 0), ("rack", 4, [(0, 0), (1, 1)]))
        self.check_amid(WIDE_HALL, WIDE_CALLS, 1, 2)

    def test_a_call_of_several_ends_of_one_rack(self):
        self.assertEqual(amid_nest(WIDE_HALL, WIDE_CALLS, 2, 8), ("rack", 4, [(2, 0), (3, 2)]))
        self.check_amid(WIDE_HALL, WIDE_CALLS, 2, 3)

    def test_without_calls(self):
        self.assertEqual(amid_nest(WIDE_HALL, [], 0, 4), ("rack", 4, []))
        self.assertEqual(amid_nest(WIDE_HALL, WIDE_CALLS[:1], 3, 8), ("rack", 4, []))
        self.check_amid(WIDE_HALL, [], 0, 3)

    def test_as_many_lines_as_the_more_racks(self):
        # More in racks, more out racks, as many of both.
        self.assertEqual(amid_nest((5, 1, 1, 2, 1), [(4, (1,), 0)], 0, 8), ("rack", 5, [(4, 1)]))
        self.assertEqual(amid_nest((2, 1, 1, 5, 1), [(1, (4,), 0)], 0, 8), ("rack", 5, [(1, 4)]))
        self.assertEqual(amid_nest((3, 2, 1, 3, 2), [(4, (5,), 0)], 0, 8), ("rack", 3, [(2, 2)]))
        self.check_amid((12, 1, 2, 3, 4), [(11, (11,), 1)], 1, 2)
        self.check_amid((3, 4, 2, 12, 1), [(11, (11,), 1)], 1, 2)

    def test_wide_tells_the_least_caller(self):
        self.assertEqual(self.wide(WIDE_HALL, WIDE_CALLS, 0), 2)
        self.assertEqual(self.wide(WIDE_HALL, WIDE_CALLS, 3), 6)
        calls = [(0, (0,), 0), (3, (3, 6), 0), (4, (7,), 1), (5, (9, 12), 0)]
        self.assertEqual(self.wide((6, 1, 2, 5, 3), calls, 0), 3)

    def test_wide_by_another_rack_amid(self):
        self.check_amid(WIDE_HALL, WIDE_CALLS, 1, 3)
        self.check_amid(WIDE_HALL, WIDE_CALLS, 2, 2, 1)

    def test_narrow_calls(self):
        for hall in ((4, 4, 7, 4, 4), (9, 3, 4, 12, 2), (12, 12, 24, 12, 12), (12, 2, 3, 5, 6), (1, 1, 1, 1, 1)):
            for seed in range(6):
                calls = narrow_calls(hall, seed)
                for k, small in itertools.product(range(hall[2]), (2, 3, 5, 8)):
                    self.check_amid(hall, calls, k, small)
                    self.check_amid(hall, calls, k, small, seed)

    def test_calls_of_any_sort(self):
        some = many_right_calls() + [((5, 4, 5, 4, 5), crowded_calls((5, 4, 5, 4, 5), seed, 2)) for seed in range(9)]
        seen = set()
        for hall, calls in some:
            for k in range(hall[2]):
                wide = [call[0] for call in calls if call[2] == k and len({end // hall[4] for end in call[1]}) > 1]
                seen.add(bool(wide))
                if wide:
                    self.assertEqual(self.wide(hall, calls, k), min(wide))
                else:
                    self.check_amid(hall, calls, k, 2)
        self.assertEqual(seen, {True, False})

    def test_a_table_joined_at_once(self):  # 0.4
        for hall in ((4, 4, 4, 4, 4), (12, 3, 5, 9, 4), (5, 6, 6, 12, 6), (12, 12, 13, 12, 12)):
            table = right_entries(hall[0] * hall[1], hall[3] * hall[4], hall[0] * hall[1], "nests")
            calls = at_once(hall, table)
            turns = []
            for k in range(hall[2]):
                for depth in range(7):
                    self.check_amid(hall, calls, k, 2, depth)
                turns += turns_of(amid_nest(hall, calls, k, 2))
            self.assertEqual(sorted(turns), sorted((caller // hall[1], end // hall[4]) for caller, end in table))

    def test_wide_is_a_hall_error(self):
        with self.assertRaises(HallError):
            amid_nest(WIDE_HALL, WIDE_CALLS, 0, 2)

    def test_what_is_told_is_new(self):  # 0.2
        for k, depth in itertools.product((1, 2), (0, 1, 6)):
            check_lists_are_new(self, amid_nest, WIDE_HALL, WIDE_CALLS, k, 2, depth)


if __name__ == "__main__":
    unittest.main()
