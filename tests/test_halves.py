import unittest

from crossracks.halves import halves
from samples import check_list_is_new, few_pairs, many_pairs, weights_by_hand


class Halves(unittest.TestCase):  # 5.2
    def check(self, pairs):
        before = list(pairs)
        told = halves(pairs)
        self.assertIsInstance(told, list)
        self.assertEqual({type(sign) for sign in told} - {int}, set())
        self.assertEqual(set(told) - {0, 1}, set())
        self.assertEqual(len(told), len(pairs))
        ones = weights_by_hand([pair for pair, sign in zip(pairs, told) if sign == 1])
        for rack, many in weights_by_hand(pairs).items():
            self.assertIn(2 * ones[rack] - many, (-1, 0, 1), (pairs, rack))
        self.assertEqual(pairs, before)

    def test_of_no_pairs(self):
        self.assertEqual(halves([]), [])

    def test_of_one(self):
        self.check([(0, 0)])
        self.check([(31, 5)])

    def test_of_two_with_a_rack_in_common(self):
        for pairs in ([(0, 1), (0, 2)], [(1, 0), (2, 0)], [(31, 31), (31, 31)]):
            self.assertEqual(sorted(halves(pairs)), [0, 1])

    def test_of_alike_ones(self):
        for many in (2, 3, 4, 63, 64, 200):
            self.assertIn(sum(halves([(7, 9)] * many)), (many // 2, many - many // 2))

    def test_of_even_racks_just_half(self):
        pairs = [(i, j) for i in range(6) for j in range(4)]
        told = halves(pairs)
        for i in range(6):
            self.assertEqual(sum(sign for pair, sign in zip(pairs, told) if pair[0] == i), 2)
        for j in range(4):
            self.assertEqual(sum(sign for pair, sign in zip(pairs, told) if pair[1] == j), 3)

    def test_a_rack_of_one_side_is_none_of_the_other(self):
        self.check([(0, 1), (1, 0), (1, 2), (2, 1), (0, 0)])

    def test_every_few_pairs(self):
        for pairs in few_pairs(2, 2, 6) + few_pairs(2, 3, 4) + few_pairs(3, 3, 4):
            self.check(pairs)

    def test_of_many(self):
        for pairs in many_pairs():
            self.check(pairs)
            self.check(pairs[::-1])

    def test_halves_of_halves(self):
        pairs = [(i % 8, (i * 5 + i // 8) % 8) for i in range(200)]
        rest = [pairs]
        for turn in range(5):
            parts = []
            for some in rest:
                self.check(some)
                told = halves(some)
                parts += [[pair for pair, sign in zip(some, told) if sign == half] for half in (0, 1)]
            rest = parts
        self.assertEqual(sorted(pair for some in rest for pair in some), sorted(pairs))

    def test_what_is_told_is_new(self):  # 0.2
        for pairs in ([], [(0, 0)], [(0, 0), (0, 1), (1, 1)]):
            check_list_is_new(self, halves, pairs)


if __name__ == "__main__":
    unittest.main()
