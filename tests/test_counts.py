import copy
import unittest

from crossracks.counts import count_of, loads
from samples import HALLS, held_lines_of, many_asks, many_right_calls, shuts_of, ways_by_hand

HALL = (2, 3, 4, 5, 2)
CALLS = [(0, (0, 1), 3), (1, (2, 4, 9), 0), (4, (5, 6), 3), (5, (3,), 1)]


class Loads(unittest.TestCase):  # 2.4
    def test_no_calls(self):
        for hall in HALLS:
            self.assertEqual(loads(hall, []), [0] * hall[2])

    def test_calls_of_several_ends_count_once(self):
        self.assertEqual(loads(HALL, CALLS), [1, 1, 0, 2])
        self.assertEqual(loads(HALL, [(5, tuple(range(10)), 2)]), [0, 0, 1, 0])

    def test_against_a_count(self):
        for hall, calls in many_right_calls():
            self.assertEqual(loads(hall, calls), [[call[2] for call in calls].count(k) for k in range(hall[2])])

    def test_a_new_list_each_time(self):  # 0.2
        before = copy.deepcopy(CALLS)
        loads(HALL, CALLS).clear()
        self.assertEqual(loads(HALL, CALLS), [1, 1, 0, 2])
        self.assertEqual(CALLS, before)


class CountOf(unittest.TestCase):  # 2.4
    def test_no_calls(self):
        self.assertEqual(count_of(HALL, [], 0, [0]), (0, [0], 4))
        self.assertEqual(count_of(HALL, [], 5, [9, 0, 1], 0b1010), (0, [0, 0], 2))

    def test_none_shut(self):
        self.assertEqual(count_of(HALL, CALLS, 2, [7]), (2, [1], 4))
        self.assertEqual(count_of(HALL, CALLS, 3, [2]), (2, [2], 4))

    def test_far_for_each_of_the_racks_rising(self):
        self.assertEqual(count_of(HALL, CALLS, 2, [8, 3, 0]), (2, [1, 2, 1], 4))
        self.assertEqual(count_of(HALL, CALLS, 2, (0, 3, 2, 8, 9)), (2, [1, 2, 1], 4))
        self.assertEqual(count_of(HALL, CALLS, 2, (5, 2)), (2, [2, 2], 4))
        hall = (3, 1, 3, 3, 1)
        calls = [(0, (2,), 0), (1, (1, 2), 1), (2, (2,), 2)]
        self.assertEqual(count_of(hall, calls, 0, [2, 1, 0]), (1, [0, 1, 3], 3))

    def test_some_shut(self):
        self.assertEqual(count_of(HALL, CALLS, 2, [3], 0b0001), (1, [1], 3))
        self.assertEqual(count_of(HALL, CALLS, 2, [3, 8], 0b0011), (1, [0, 0], 2))
        self.assertEqual(count_of(HALL, CALLS, 2, [3, 8], 0b1000), (1, [2, 1], 3))
        self.assertEqual(count_of(HALL, CALLS, 2, [3, 8], shut=0b0100), (2, [2, 1], 3))

    def test_all_shut(self):
        self.assertEqual(count_of(HALL, CALLS, 2, [3, 8], 0b1111), (0, [0, 0], 0))

    def test_against_lines_counted_one_by_one(self):
        for hall, calls, caller, ends in many_asks():
            held = held_lines_of(hall, calls)
            racks = sorted({end // hall[4] for end in ends})
            for shut in shuts_of(hall):
                left = [k for k in range(hall[2]) if shut // 2 ** k % 2 == 0]
                near = sum(("in", caller // hall[1], k) in held for k in left)
                far = [sum(("out", k, rack) in held for k in left) for rack in racks]
                told = count_of(hall, calls, caller, ends, shut)
                self.assertEqual(told, (near, far, len(left)))
                self.assertIsInstance(told, tuple)
                self.assertIsInstance(told[1], list)

    def test_less_than_ready_leaves_a_way(self):
        seen = set()
        for hall, calls, caller, ends in many_asks():
            for shut in shuts_of(hall):
                held, far, ready = count_of(hall, calls, caller, ends, shut)
                seen.add(held + sum(far) < ready)
                if held + sum(far) < ready:
                    self.assertNotEqual(ways_by_hand(hall, calls, caller, ends, shut), [])
        self.assertEqual(seen, {True, False})

    def test_a_new_list_each_time(self):  # 0.2
        before = copy.deepcopy(CALLS)
        ends = [8, 3, 0]
        count_of(HALL, CALLS, 2, ends)[1].clear()
        self.assertEqual(count_of(HALL, CALLS, 2, ends), (2, [1, 2, 1], 4))
        self.assertEqual((CALLS, ends), (before, [8, 3, 0]))


if __name__ == "__main__":
    unittest.main()
