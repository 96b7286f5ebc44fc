import copy
import itertools
import random
import unittest

from crossracks.nests import nest_of
from crossracks.paths import came_from, closed_bars, crossings, turns_of, went_to
from samples import check_list_is_new, many_turns, nest_bars, nest_sizes, nest_walk

# Line 0 goes by rack amid 1 to line 4, line 1 by 0 to line 1, line 4 by 0 to line 2; lines 2 and 3 have no bar.
MADE = (
    "hall", 5, 2,
    [[(0, 1), (1, 0)], [], [(0, 0)]],
    [("rack", 3, [(0, 0), (2, 1)]), ("rack", 3, [(0, 2)])],
    [[(0, 1)], [(0, 0)], [(1, 0)]])
MADE_TURNS = [(0, 4), (1, 1), (4, 2)]


def renumbered(nest, chance):
    """The same nest with its racks amid numbered otherwise, at each depth."""
    if nest[0] == "rack":
        return ("rack", nest[1], list(nest[2]))
    word, lines, small, firsts, amids, lasts = nest
    new = chance.sample(range(small), small)
    moved = [None] * small
    for k, amid in enumerate(amids):
        moved[new[k]] = renumbered(amid, chance)
    return (word, lines, small,
            [sorted((place, new[k]) for place, k in bars) for bars in firsts], moved,
            [sorted((new[k], place) for k, place in bars) for bars in lasts])


def nests():
    """Tuples (nest, turns): nests made of turns, and the same with other numbers."""
    found = [(copy.deepcopy(MADE), MADE_TURNS)]
    for place, (lines, small, turns) in enumerate(many_turns()):
        chance = random.Random(f"nests {place}")
        for depth in (0, 1, 2, 6):
            nest = nest_of(lines, small, turns, depth)
            found += [(nest, turns), (renumbered(nest, chance), turns), (renumbered(nest, chance), turns)]
    return found


class Made(unittest.TestCase):  # 6.3
    def test_went_to(self):
        self.assertEqual([went_to(MADE, line) for line in range(5)], [4, 1, None, None, 2])

    def test_came_from(self):
        self.assertEqual([came_from(MADE, line) for line in range(5)], [None, 1, 4, None, 0])

    def test_turns_of(self):
        self.assertEqual(turns_of(MADE), MADE_TURNS)

    def test_closed_bars(self):
        self.assertEqual(closed_bars(MADE), 9)

    def test_a_rack(self):
        nest = ("rack", 4, [(0, 2), (1, 0), (3, 3)])
        self.assertEqual([went_to(nest, line) for line in range(4)], [2, 0, None, 3])
        self.assertEqual([came_from(nest, line) for line in range(4)], [1, None, 0, 3])
        self.assertEqual(turns_of(nest), [(0, 2), (1, 0), (3, 3)])
        self.assertEqual(closed_bars(nest), 3)

    def test_one_line(self):
        for nest, goal in ((("rack", 1, [(0, 0)]), 0), (("rack", 1, []), None)):
            self.assertEqual((went_to(nest, 0), came_from(nest, 0)), (goal, goal))
            self.assertEqual(closed_bars(nest), len(turns_of(nest)))

    def test_without_bars(self):
        nest = nest_of(9, 2, [])
        self.assertEqual([went_to(nest, line) for line in range(9)], [None] * 9)
        self.assertEqual([came_from(nest, line) for line in range(9)], [None] * 9)
        self.assertEqual((turns_of(nest), closed_bars(nest)), ([], 0))

    def test_lines_that_the_nest_does_not_have(self):
        for nest in (MADE, ("rack", 5, [(4, 0), (0, 4)]), nest_of(5, 2, [(line, line) for line in range(5)])):
            for line in (-6, -5, -2, -1, 5, 6, 7, 64):
                self.assertIsNone(went_to(nest, line))
                self.assertIsNone(came_from(nest, line))


class Many(unittest.TestCase):  # 6.3
    def test_went_to_and_came_from(self):
        for nest, turns in nests():
            goals, starts = dict(turns), {other: one for one, other in turns}
            for line in range(nest[1]):
                self.assertEqual(nest_walk(nest, line)[0], goals.get(line))
                self.assertEqual(went_to(nest, line), goals.get(line))
                self.assertEqual(came_from(nest, line), starts.get(line))

    def test_turns_of(self):
        for nest, turns in nests():
            self.assertEqual(turns_of(nest), sorted(turns))

    def test_closed_bars(self):
        for nest, turns in nests():
            self.assertEqual(closed_bars(nest), len(nest_bars(nest)))

    def test_closed_bars_of_each_depth(self):
        # Each turn closes one bar in the innermost rack and two in each hall round it.
        for lines, small, turns in many_turns():
            for depth in range(7):
                halls = len(nest_sizes(lines, small, depth)) - 1
                self.assertEqual(closed_bars(nest_of(lines, small, turns, depth)), len(turns) * (2 * halls + 1))

    def test_other_numbers_are_other_nests(self):
        self.assertGreater(len({repr(nest) for nest, turns in nests()}), 200)

    def test_the_nest_stays(self):  # 0.2
        for nest, turns in nests()[::7]:
            before = copy.deepcopy(nest)
            for line in range(nest[1]):
                went_to(nest, line)
                came_from(nest, line)
            turns_of(nest)
            closed_bars(nest)
            self.assertEqual(nest, before)

    def test_what_is_told_is_new(self):  # 0.2
        for nest in (MADE, ("rack", 4, [(0, 2), (1, 0), (3, 3)]), ("rack", 1, []), nest_of(9, 2, [(8, 0), (0, 8)])):
            check_list_is_new(self, turns_of, nest)


def crossings_by_hand(nest):
    """The crossings of a nest that is there, counted rack by rack."""
    if nest[0] == "rack":
        return nest[1] ** 2
    return sum(nest[2] ** 2 for rack in nest[3] + nest[5]) + sum(crossings_by_hand(amid) for amid in nest[4])


class Crossings(unittest.TestCase):  # 6.5
    def test_of_racks(self):
        for lines, small in itertools.product(range(1, 65), range(2, 9)):
            self.assertEqual(crossings(lines, small, 0), lines * lines)
            if lines <= small:
                for depth in range(7):
                    self.assertEqual(crossings(lines, small, depth), lines * lines)

    def test_of_halls(self):
        # Two in racks, two out racks of four crossings each, two racks amid of four each.
        self.assertEqual(crossings(4, 2, 1), 24)
        self.assertEqual(crossings(3, 2, 1), 24)
        self.assertEqual(crossings(5, 2, 1), 3 * 4 * 2 + 2 * 9)
        self.assertEqual(crossings(5, 2, 2), 3 * 4 * 2 + 2 * 24)
        self.assertEqual(crossings(64, 8, 1), 16 * 64 + 8 * 64)
        self.assertEqual(crossings(64, 2), 11 * 64 * 2)

    def test_of_all_sizes_and_depths(self):
        for lines, small, depth in itertools.product(range(1, 65), range(2, 9), range(7)):
            self.assertEqual(crossings(lines, small, depth), crossings_by_hand(nest_of(lines, small, [], depth)))

    def test_the_default_depth(self):
        for lines, small in itertools.product(range(1, 65), range(2, 9)):
            self.assertEqual(crossings(lines, small), crossings(lines, small, 6))
            self.assertEqual(crossings(lines, small), crossings(lines, small, depth=6))

    def test_whatever_the_turns(self):
        for lines, small, turns in many_turns():
            for depth in (0, 1, 3, 6):
                nest = nest_of(lines, small, turns, depth)
                self.assertEqual(crossings(lines, small, depth), crossings_by_hand(nest))


if __name__ == "__main__":
    unittest.main()
