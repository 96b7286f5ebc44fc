import copy
import itertools
import unittest

from crossracks.ways import holders, is_caller, is_ends, least_ended, ways
from samples import (
    HALLS, STRANGE, Alike, asks_of, held_lines_of, lines_of, many_asks, right_calls, right_lists, shuts_of,
    ways_by_hand)

# Callers 0 to 2 and 3 to 5 in two in racks, ends 0 and 1, 2 and 3, .. in five out racks.
HALL = (2, 3, 4, 5, 2)
CALLS = [(0, (0, 1), 3), (1, (2, 4, 9), 0), (4, (5, 6), 3), (5, (3,), 1)]


def holders_by_hand(hall, calls, caller, ends):
    found = []
    for k in range(hall[2]):
        needed = lines_of(hall, caller, ends, k)
        found.append(sorted({call[0] for call in calls if needed & lines_of(hall, *call)}))
    return found


class IsCaller(unittest.TestCase):  # 2.1
    def test_first_and_last_and_one_beyond(self):
        for hall in HALLS:
            last = hall[0] * hall[1] - 1
            for thing in range(-3, last + 4):
                self.assertIs(is_caller(hall, thing), 0 <= thing <= last, (hall, thing))

    def test_callers_are_no_ends(self):
        self.assertIs(is_caller((1, 2, 3, 4, 5), 2), False)
        self.assertIs(is_caller((4, 5, 3, 1, 2), 19), True)

    def test_very_great_numbers(self):
        self.assertIs(is_caller(HALL, 10 ** 3000), False)
        self.assertIs(is_caller(HALL, -10 ** 3000), False)

    def test_strange_things(self):
        for thing in STRANGE + [Alike(), [0], (0,), [[0]], "0", 0.0, 5.0]:
            self.assertIs(is_caller(HALL, thing), False, thing)


class IsEnds(unittest.TestCase):  # 2.1
    def check(self, thing, wanted):
        before = copy.copy(thing)
        self.assertIs(is_ends(HALL, thing), wanted, thing)
        self.assertEqual(thing, before)

    def test_lists_and_tuples_in_any_order(self):
        for many in range(1, 5):
            for ends in itertools.permutations((0, 3, 4, 9), many):
                self.check(ends, True)
                self.check(list(ends), True)
        self.check(list(range(10)), True)
        self.check(tuple(reversed(range(10))), True)

    def test_none(self):
        self.check([], False)
        self.check((), False)

    def test_an_end_twice(self):
        for ends in ([0, 0], [3, 4, 3], [9, 1, 1], [5, 5, 5], [2, 0, 1, 2]):
            self.check(ends, False)
            self.check(tuple(ends), False)

    def test_bounds(self):
        for end in range(-4, 15):
            self.check([end], 0 <= end < 10)
            self.check((5, end), 0 <= end < 10 and end != 5)
            self.check([end, 5], 0 <= end < 10 and end != 5)
        self.check([0, 10 ** 3000], False)
        self.check([-10 ** 3000, 0], False)

    def test_each_hall_has_its_own_bounds(self):
        for hall in HALLS:
            ends = list(range(hall[3] * hall[4]))
            self.assertIs(is_ends(hall, ends), True, hall)
            self.assertIs(is_ends(hall, ends + [len(ends)]), False, hall)
            self.assertIs(is_ends(hall, [len(ends)]), False, hall)

    def test_strange_things_at_each_place(self):
        for place, thing in itertools.product(range(3), STRANGE + [Alike(), [0], (0,), {}, "0", 0.0]):
            ends = [0, 4, 7]
            ends[place] = thing
            self.assertIs(is_ends(HALL, ends), False, ends)
            self.assertIs(is_ends(HALL, tuple(ends)), False, ends)

    def test_strange_things_alone(self):
        for thing in STRANGE + [Alike(), 0, 5, 10, "05", {0: 0}, {0, 1}, range(1, 3), [[0, 1]], ((0, 1),), [(0,)]]:
            if isinstance(thing, (list, tuple)) and list(thing) == [1]:
                continue
            self.assertIs(is_ends(HALL, thing), False, thing)

    def test_a_list_within_itself(self):
        ends = [0]
        ends.append(ends)
        self.assertIs(is_ends(HALL, ends), False)
        self.assertIs(is_caller(HALL, ends), False)


class Holders(unittest.TestCase):  # 2.2
    def test_no_calls(self):
        for hall in HALLS:
            self.assertEqual(holders(hall, [], 0, [0]), [[] for k in range(hall[2])])

    def test_the_line_from_the_in_rack(self):
        self.assertEqual(holders(HALL, CALLS, 2, [7]), [[1], [], [], [0, 4]])
        self.assertEqual(holders(HALL, CALLS, 3, [0]), [[], [5], [], [0, 4]])
        self.assertEqual(holders(HALL, [(2, (9,), 1)], 0, [0]), [[], [2], [], []])
        self.assertEqual(holders(HALL, [(3, (9,), 1)], 0, [0]), [[], [], [], []])

    def test_the_lines_to_the_out_racks(self):
        self.assertEqual(holders(HALL, [(3, (8,), 1)], 0, [9]), [[], [3], [], []])
        self.assertEqual(holders(HALL, [(3, (1, 6, 8), 2)], 0, [9, 4]), [[], [], [3], []])
        self.assertEqual(holders(HALL, [(3, (1, 6, 8), 2)], 0, [2, 4]), [[], [], [], []])

    def test_a_call_that_holds_several_of_the_lines_comes_once(self):
        self.assertEqual(holders(HALL, CALLS, 2, [3, 5, 8]), [[1], [5], [], [0, 4]])
        self.assertEqual(holders(HALL, [(0, (0, 2, 4, 6, 8), 1)], 1, (1, 3, 5)), [[], [0], [], []])
        self.assertEqual(holders(HALL, [(5, (0, 2, 4, 6, 8), 1)], 1, (9, 1, 3, 5)), [[], [5], [], []])

    def test_several_holders_of_one_rack_rise(self):
        hall = (5, 1, 2, 5, 1)
        calls = [(k, (4 - k,), 1) for k in range(5)]
        self.assertEqual(holders(hall, calls, 2, [0, 4, 1, 3]), [[], [0, 1, 2, 3, 4]])
        self.assertEqual(holders(hall, calls, 0, [0, 3]), [[], [0, 1, 4]])

    def test_a_call_of_the_caller_itself_holds_like_any_other(self):
        self.assertEqual(holders(HALL, CALLS, 1, [6]), [[1], [], [], [0, 4]])
        self.assertEqual(holders(HALL, [(1, (0,), 2)], 1, [9]), [[], [], [1], []])

    def test_a_call_that_has_one_of_the_ends_holds_like_any_other(self):
        self.assertEqual(holders(HALL, CALLS, 4, [3]), [[1], [5], [], [4]])
        self.assertEqual(holders(HALL, [(4, (3,), 2)], 0, [3]), [[], [], [4], []])
        self.assertEqual(holders(HALL, [(1, (3,), 2)], 1, [3]), [[], [], [1], []])

    def test_against_lines_counted_one_by_one(self):
        for hall, calls, caller, ends in many_asks():
            wanted = holders_by_hand(hall, calls, caller, ends)
            self.assertEqual(holders(hall, calls, caller, ends), wanted, (hall, calls, caller, ends))
            self.assertEqual(holders(hall, calls, caller, tuple(ends)), wanted)

    def test_new_lists_each_time(self):  # 0.2
        for calls in ([], CALLS):
            before = copy.deepcopy(calls)
            wanted = copy.deepcopy(holders(HALL, calls, 2, [7]))
            told = holders(HALL, calls, 2, [7])
            told[2].append(99)
            self.assertEqual(told, wanted[:2] + [[99]] + wanted[3:])
            told.clear()
            self.assertEqual(holders(HALL, calls, 2, [7]), wanted)
            self.assertEqual(calls, before)


class Ways(unittest.TestCase):  # 2.2
    def test_no_calls(self):
        self.assertEqual(ways(HALL, [], 0, [0]), [0, 1, 2, 3])
        self.assertEqual(ways(HALL, [], 0, [0], 0b0101), [1, 3])
        self.assertEqual(ways(HALL, [], 0, [0], 0b1111), [])

    def test_none_shut_some_all(self):
        self.assertEqual(ways(HALL, CALLS, 2, [7]), [1, 2])
        self.assertEqual(ways(HALL, CALLS, 2, [7], 0), [1, 2])
        self.assertEqual(ways(HALL, CALLS, 2, [7], 0b0001), [1, 2])
        self.assertEqual(ways(HALL, CALLS, 2, [7], 0b0010), [2])
        self.assertEqual(ways(HALL, CALLS, 2, [7], 0b0110), [])
        self.assertEqual(ways(HALL, CALLS, 2, [7], shut=0b1111), [])

    def test_only_racks_of_the_hall(self):
        self.assertEqual(ways((1, 1, 1, 1, 1), [], 0, [0]), [0])
        self.assertEqual(ways((12, 12, 24, 12, 12), [], 143, [143]), list(range(24)))

    def test_against_lines_counted_one_by_one(self):
        for hall, calls, caller, ends in many_asks():
            for shut in shuts_of(hall):
                self.assertEqual(
                    ways(hall, calls, caller, ends, shut), ways_by_hand(hall, calls, caller, ends, shut))

    def test_a_call_by_a_way_holds_no_line_twice(self):  # 0.4
        for hall, calls, caller, ends in many_asks():
            for k in range(hall[2]):
                lines = held_lines_of(hall, calls + [(caller, tuple(ends), k)])
                self.assertEqual(k in ways(hall, calls, caller, ends), len(lines) == len(set(lines)))

    def test_a_new_list_each_time(self):  # 0.2
        before = copy.deepcopy(CALLS)
        ends = [7, 6]
        ways(HALL, CALLS, 2, ends).clear()
        self.assertEqual(ways(HALL, CALLS, 2, ends), [1, 2])
        self.assertEqual((CALLS, ends), (before, [7, 6]))


class LeastEnded(unittest.TestCase):  # 2.3
    def test_the_fewest(self):
        hall = (3, 2, 2, 3, 2)
        calls = [(0, (0,), 0), (1, (5,), 1), (2, (2,), 0)]
        self.assertEqual(holders(hall, calls, 1, [3]), [[0, 2], [1]])
        self.assertEqual(least_ended(hall, calls, 1, [3]), [1])
        self.assertEqual(least_ended(hall, calls, 1, [3], 0b10), [0, 2])
        self.assertEqual(least_ended(hall, calls, 1, [3], 0b01), [1])

    def test_of_several_as_few_those_of_the_least_rack(self):
        calls = [(0, (0,), 2), (1, (2,), 1), (2, (4,), 0)]
        hall = (1, 4, 3, 5, 2)
        self.assertEqual(least_ended(hall, calls, 3, [9]), [2])
        self.assertEqual(least_ended(hall, calls, 3, [9], 0b001), [1])
        self.assertEqual(least_ended(hall, calls, 3, [9], 0b011), [0])

    def test_the_least_rack_though_its_list_is_greater(self):
        hall = (2, 2, 2, 2, 2)
        calls = [(0, (0,), 1), (1, (2,), 0)]
        self.assertEqual(least_ended(hall, calls, 0, [3]), [1])
        self.assertEqual(least_ended(hall, calls, 1, [1]), [1])

    def test_the_list_of_none_where_there_is_a_way(self):
        self.assertEqual(least_ended(HALL, [], 0, [0]), [])
        self.assertEqual(least_ended(HALL, CALLS, 2, [7], 0b0010), [])

    def test_none_where_all_are_shut(self):
        for hall in HALLS:
            self.assertIsNone(least_ended(hall, [], 0, [0], 2 ** hall[2] - 1))
        self.assertIsNone(least_ended(HALL, CALLS, 2, [7], 0b1111))

    def test_shut_racks_give_no_least_set(self):
        self.assertEqual(least_ended(HALL, CALLS, 2, [7], 0b0110), [1])
        self.assertEqual(least_ended(HALL, CALLS, 2, [7], 0b0111), [0, 4])

    def test_against_the_holders(self):
        for hall, calls, caller, ends in many_asks():
            for shut in shuts_of(hall):
                held = holders_by_hand(hall, calls, caller, ends)
                left = [(len(held[k]), k) for k in range(hall[2]) if shut // 2 ** k % 2 == 0]
                wanted = held[min(left)[1]] if left else None
                self.assertEqual(least_ended(hall, calls, caller, ends, shut), wanted)
                self.assertEqual(wanted == [], ways_by_hand(hall, calls, caller, ends, shut) != [])

    def check_least(self, hall, calls, caller, ends, shut):
        least = least_ended(hall, calls, caller, ends, shut)
        if least is None:
            self.assertEqual(shut, 2 ** hall[2] - 1)
            return
        rest = [call for call in calls if call[0] not in least]
        self.assertNotEqual(ways_by_hand(hall, rest, caller, ends, shut), [])
        for many in range(len(least)):
            for gone in itertools.combinations(calls, many):
                rest = [call for call in calls if call not in gone]
                self.assertEqual(ways_by_hand(hall, rest, caller, ends, shut), [], (hall, calls, caller, ends, shut))

    def test_no_fewer_calls_leave_a_way(self):
        for hall in ((3, 2, 2, 3, 2), (2, 3, 3, 2, 3), (4, 1, 1, 4, 2)):
            for seed in range(30):
                for caller, ends in asks_of(hall, seed):
                    for shut in range(2 ** hall[2]):
                        self.check_least(hall, right_calls(hall, seed), caller, ends, shut)

    def test_no_fewer_calls_leave_a_way_in_any_small_hall(self):
        for hall in ((2, 1, 2, 2, 1), (1, 2, 2, 2, 1)):
            for calls in right_lists(hall, 2):
                for caller, ends, shut in itertools.product((0, 1), ([0], [1], [1, 0]), range(4)):
                    self.check_least(hall, calls, caller, ends, shut)

    def test_a_new_list_each_time(self):  # 0.2
        before = copy.deepcopy(CALLS)
        ends = [7, 6]
        for shut, wanted in ((0, []), (0b0111, [0, 4])):
            least_ended(HALL, CALLS, 2, ends, shut).append(99)
            self.assertEqual(least_ended(HALL, CALLS, 2, ends, shut), wanted)
        self.assertEqual((CALLS, ends), (before, [7, 6]))


if __name__ == "__main__":
    unittest.main()
