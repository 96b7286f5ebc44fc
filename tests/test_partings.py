import unittest

from crossracks.errors import HallError, TooFull
from crossracks.partings import parted, touching
from samples import check_list_is_new, few_pairs, many_pairs, weights_by_hand


def greatest_by_hand(pairs):
    return max(weights_by_hand(pairs).values(), default=0)


def full_by_hand(pairs, ways):
    """The tuple (side, rack, many) of the first rack that is too full, or None."""
    found = [(side, rack, many) for (side, rack), many in weights_by_hand(pairs).items() if many > ways]
    return min(found, default=None)


class Touching(unittest.TestCase):  # 5.3
    def check(self, pairs):
        before = list(pairs)
        told = touching(pairs)
        self.assertIsInstance(told, list)
        self.assertEqual({type(place) for place in told} - {int}, set())
        self.assertEqual(told, sorted(set(told)))
        self.assertLessEqual(set(told), set(range(len(pairs))))
        chosen = weights_by_hand([pairs[place] for place in told])
        self.assertLessEqual(max(chosen.values(), default=0), 1)
        greatest = greatest_by_hand(pairs)
        for rack, many in weights_by_hand(pairs).items():
            if many == greatest:
                self.assertEqual(chosen[rack], 1, (pairs, rack))
        self.assertEqual(pairs, before)

    def test_without_pairs(self):
        self.assertEqual(touching([]), [])

    def test_of_one(self):
        self.assertEqual(touching([(0, 0)]), [0])
        self.assertEqual(touching([(31, 4)]), [0])

    def test_of_alike_ones(self):
        for many in (2, 3, 64, 200):
            told = touching([(7, 9)] * many)
            self.assertEqual(len(told), 1)
            self.assertIn(told[0], range(many))

    def test_all_where_no_two_have_a_rack_in_common(self):
        self.assertEqual(touching([(i, (i * 7 + 3) % 32) for i in range(32)]), list(range(32)))

    def test_each_rack_of_the_greatest_weight(self):
        # In racks 0 and 1 and out rack 0 have two pairs each; a choice of the first alone would leave out in rack 1.
        self.check([(0, 0), (0, 1), (1, 0), (1, 2)])
        self.check([(1, 0), (0, 0), (1, 1), (2, 1), (2, 2), (3, 2)])
        self.check([(0, 0), (1, 0), (2, 0), (0, 1), (0, 2), (5, 5)])

    def test_every_few_pairs(self):
        for pairs in few_pairs(2, 2, 6) + few_pairs(2, 3, 4) + few_pairs(3, 3, 4):
            self.check(pairs)

    def test_of_many(self):
        for pairs in many_pairs():
            self.check(pairs)
            self.check(pairs[::-1])

    def test_what_is_told_is_new(self):  # 0.2
        for pairs in ([], [(0, 0)], [(0, 0), (0, 1), (1, 1)]):
            check_list_is_new(self, touching, pairs)


class Parted(unittest.TestCase):  # 5.4
    def check(self, pairs, ways):
        before = list(pairs)
        told = parted(pairs, ways)
        self.assertIsInstance(told, list)
        self.assertEqual({type(number) for number in told} - {int}, set())
        self.assertEqual(len(told), len(pairs))
        self.assertLessEqual(set(told), set(range(ways)))
        for side in (0, 1):
            seats = [(pair[side], number) for pair, number in zip(pairs, told)]
            self.assertEqual(len(seats), len(set(seats)), (pairs, ways))
        self.assertEqual(pairs, before)

    def test_no_pairs(self):
        for ways in (0, 1, 2, 64):
            self.assertEqual(parted([], ways), [])

    def test_one_pair(self):
        self.assertEqual(parted([(0, 0)], 1), [0])
        self.assertEqual(parted([(31, 31)], 1), [0])
        self.check([(3, 30)], 64)

    def test_alike_pairs(self):
        for many in (2, 3, 63, 64):
            self.assertEqual(sorted(parted([(7, 9)] * many, many)), list(range(many)))
        self.check([(7, 9)] * 10, 64)

    def test_one_number_for_pairs_without_common_racks(self):
        self.assertEqual(parted([(i, (i * 7 + 3) % 32) for i in range(32)], 1), [0] * 32)

    def test_where_numbers_given_must_change(self):
        # Whoever gives each pair in turn the least number left, and changes none, comes to a third one.
        self.check([(0, 0), (0, 1), (1, 2), (1, 1)], 2)
        self.check([(0, 0), (1, 1), (0, 2), (1, 2)], 2)
        self.check([(0, 0), (0, 1), (1, 2), (2, 2), (1, 1), (2, 0)], 2)
        self.check([(0, 0), (1, 0), (2, 1), (3, 1), (0, 2), (2, 2), (1, 3), (3, 3)], 2)

    def test_whole_grids(self):
        for ins, outs in ((2, 2), (3, 5), (5, 3), (14, 14), (6, 32), (32, 6)):
            pairs = [(i, j) for i in range(ins) for j in range(outs)]
            self.check(pairs, max(ins, outs))
            self.check(pairs[::-1], max(ins, outs))

    def test_every_few_pairs(self):
        for pairs in few_pairs(2, 2, 6) + few_pairs(2, 3, 4) + few_pairs(3, 3, 4):
            greatest = greatest_by_hand(pairs)
            self.check(pairs, greatest)
            self.check(pairs, greatest + 1)

    def test_of_many(self):
        for pairs in many_pairs():
            greatest = greatest_by_hand(pairs)
            for ways in sorted({greatest, greatest + 1, greatest + 5, max(64, greatest)}):
                self.check(pairs, ways)
                self.check(pairs[::-1], ways)

    def test_what_is_told_is_new(self):  # 0.2
        for pairs in ([], [(0, 0)], [(0, 0), (0, 1), (1, 1)]):
            check_list_is_new(self, parted, pairs, 2)


class RefusedTooFull(unittest.TestCase):  # 5.4
    def refuse(self, pairs, ways):
        before = list(pairs)
        with self.assertRaises(TooFull) as taken:
            parted(pairs, ways)
        self.assertEqual(pairs, before)
        return (taken.exception.side, taken.exception.rack, taken.exception.many)

    def test_an_in_rack(self):
        self.assertEqual(self.refuse([(4, 0), (4, 1), (3, 2)], 1), (0, 4, 2))
        self.assertEqual(self.refuse([(31, 0)] * 65, 64), (0, 31, 65))

    def test_an_out_rack(self):
        self.assertEqual(self.refuse([(0, 4), (1, 4), (2, 3)], 1), (1, 4, 2))
        self.assertEqual(self.refuse([(i, 31) for i in range(32)], 31), (1, 31, 32))

    def test_the_least_one_of_a_side(self):
        self.assertEqual(self.refuse([(9, 0), (9, 1), (9, 2), (5, 3), (5, 4), (2, 5)], 1), (0, 5, 2))
        self.assertEqual(self.refuse([(0, 9), (1, 9), (2, 9), (3, 5), (4, 5), (5, 2)], 1), (1, 5, 2))
        self.assertEqual(self.refuse([(10, 0), (10, 1), (9, 2), (9, 3)], 1), (0, 9, 2))

    def test_side_0_ahead_of_side_1(self):
        self.assertEqual(self.refuse([(0, 0), (1, 0), (2, 0), (9, 4), (9, 5)], 1), (0, 9, 2))
        self.assertEqual(self.refuse([(7, 3), (7, 3)], 1), (0, 7, 2))
        # Its weight is less than that of out rack 0, which is not looked at.
        self.assertEqual(self.refuse([(0, 0), (1, 0), (2, 0), (3, 0), (8, 1), (8, 2), (8, 3)], 2), (0, 8, 3))

    def test_without_ways(self):
        self.assertEqual(self.refuse([(6, 2)], 0), (0, 6, 1))
        self.assertEqual(self.refuse([(6, 2), (3, 1), (3, 0)], 0), (0, 3, 2))

    def test_just_where_a_rack_has_a_weight_above_ways(self):
        for pairs in many_pairs() + few_pairs(2, 3, 4):
            for ways in range(greatest_by_hand(pairs)):
                self.assertEqual(self.refuse(pairs, ways), full_by_hand(pairs, ways))
            self.assertIsNone(full_by_hand(pairs, greatest_by_hand(pairs)))

    def test_it_is_a_hall_error(self):
        with self.assertRaises(HallError):
            parted([(0, 0)], 0)


if __name__ == "__main__":
    unittest.main()
