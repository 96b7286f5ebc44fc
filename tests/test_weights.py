import copy
import unittest

from crossracks.weights import greatest_weight, weight
from samples import few_pairs, many_pairs, weights_by_hand

PAIRS = [(0, 2), (3, 2), (0, 2), (31, 0), (2, 31), (0, 3)]


class Weight(unittest.TestCase):  # 5.1
    def test_of_in_racks(self):
        for rack, wanted in ((0, 3), (1, 0), (2, 1), (3, 1), (30, 0), (31, 1)):
            self.assertEqual(weight(PAIRS, 0, rack), wanted, rack)

    def test_of_out_racks(self):
        for rack, wanted in ((0, 1), (1, 0), (2, 3), (3, 1), (30, 0), (31, 1)):
            self.assertEqual(weight(PAIRS, 1, rack), wanted, rack)

    def test_of_alike_pairs(self):
        pairs = [(4, 5)] * 200
        self.assertEqual([weight(pairs, 0, 4), weight(pairs, 1, 5)], [200, 200])
        self.assertEqual([weight(pairs, 0, 5), weight(pairs, 1, 4)], [0, 0])

    def test_of_no_pairs(self):
        for side in (0, 1):
            for rack in (0, 1, 31):
                self.assertEqual(weight([], side, rack), 0)

    def test_of_many_pairs(self):
        for pairs in many_pairs():
            before = copy.deepcopy(pairs)
            wanted = weights_by_hand(pairs)
            for side in (0, 1):
                for rack in range(32):
                    self.assertEqual(weight(pairs, side, rack), wanted[side, rack])
            self.assertEqual(pairs, before)


class GreatestWeight(unittest.TestCase):  # 5.1
    def test_without_pairs(self):
        self.assertEqual(greatest_weight([]), 0)

    def test_of_either_side(self):
        self.assertEqual(greatest_weight([(0, 0)]), 1)
        self.assertEqual(greatest_weight([(0, 1), (0, 2), (1, 3)]), 2)
        self.assertEqual(greatest_weight([(1, 0), (2, 0), (3, 1)]), 2)
        self.assertEqual(greatest_weight([(1, 0), (0, 1)]), 1)
        self.assertEqual(greatest_weight(PAIRS), 3)

    def test_of_alike_pairs(self):
        self.assertEqual(greatest_weight([(31, 0)] * 200), 200)

    def test_a_rack_of_one_side_is_none_of_the_other(self):
        self.assertEqual(greatest_weight([(0, 1), (1, 0), (2, 2)]), 1)
        self.assertEqual(greatest_weight([(7, 7), (7, 7)]), 2)

    def test_of_many_pairs(self):
        for pairs in many_pairs() + few_pairs(2, 3, 4):
            before = copy.deepcopy(pairs)
            self.assertEqual(greatest_weight(pairs), max(weights_by_hand(pairs).values(), default=0))
            self.assertEqual(pairs, before)


if __name__ == "__main__":
    unittest.main()
