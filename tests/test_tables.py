import copy
import itertools
import random
import unittest

from crossracks.errors import HallError, NoTable, TooFull
from crossracks.lines import is_right
from crossracks.tables import at_once, open_racks, pairs_of
from samples import (
    HALLS, Alike, check_list_is_new, deep_list, every_entries, is_right_by_hand, right_entries, shuts_of,
    spoilt_entries, weights_by_hand, wrong_entries, wrong_place_by_hand)

HALL = (2, 3, 4, 5, 2)


def sizes_of(hall):
    """How many callers and how many ends there are."""
    return hall[0] * hall[1], hall[3] * hall[4]


def many_tables():
    """Tuples (hall, table)."""
    return [(hall, right_entries(*sizes_of(hall), many, seed))
            for hall in HALLS + [(3, 3, 3, 3, 3), (4, 4, 4, 4, 4), (2, 12, 12, 2, 12)]
            for many in (0, 1, 2, 5, 9, 20, 70, 144) for seed in range(3)]


def pairs_by_hand(hall, table):
    return [(caller // hall[1], end // hall[4]) for caller, end in table]


def full_by_hand(hall, table, ready):
    """The tuple (side, rack, many) with which the table is too full, or None."""
    weights = weights_by_hand(pairs_by_hand(hall, table))
    return min(((side, rack, many) for (side, rack), many in weights.items() if many > ready), default=None)


def open_by_hand(hall, shut):
    return [k for k in range(hall[2]) if shut // 2 ** k % 2 == 0]


class PairsOf(unittest.TestCase):  # 5.6
    def test_in_the_order_of_the_table(self):
        self.assertEqual(pairs_of(HALL, [(4, 9), (0, 0), (3, 2), (2, 8)]), [(1, 4), (0, 0), (1, 1), (0, 4)])
        self.assertEqual(pairs_of(HALL, [(2, 8), (3, 2), (0, 0), (4, 9)]), [(0, 4), (1, 1), (0, 0), (1, 4)])

    def test_of_no_entries(self):
        for hall in HALLS:
            self.assertEqual(pairs_of(hall, []), [])

    def test_alike_pairs(self):
        self.assertEqual(pairs_of(HALL, [(1, 3), (0, 2)]), [(0, 1), (0, 1)])

    def test_the_first_and_the_last_line(self):
        self.assertEqual(pairs_of(HALL, [(5, 0), (0, 9)]), [(1, 0), (0, 4)])
        self.assertEqual(pairs_of((1, 1, 1, 1, 1), [(0, 0)]), [(0, 0)])
        self.assertEqual(pairs_of((12, 12, 24, 12, 12), [(143, 0), (0, 143)]), [(11, 0), (0, 11)])

    def test_of_many(self):
        for hall, table in many_tables():
            before = copy.deepcopy(table)
            told = pairs_of(hall, table)
            self.assertEqual(told, pairs_by_hand(hall, table))
            self.assertEqual({type(pair) for pair in told} - {tuple}, set())
            self.assertEqual(table, before)

    def test_what_is_told_is_new(self):  # 0.2
        for table in ([], [(0, 0)], [(4, 9), (0, 0)]):
            check_list_is_new(self, pairs_of, HALL, table)


class RefusedNoTable(unittest.TestCase):  # 5.6, 5.8
    def place(self, tell, hall, table, *others):
        before = list(table)
        with self.assertRaises(NoTable) as taken:
            tell(hall, table, *others)
        self.assertEqual(len(table), len(before))
        self.assertTrue(all(one is other for one, other in zip(table, before)))
        self.assertIs(type(taken.exception.place), int)
        return taken.exception.place

    def both(self, hall, table):
        place = self.place(pairs_of, hall, table)
        self.assertEqual(self.place(at_once, hall, table), place)
        return place

    def test_of_any_kind(self):
        for wrong in wrong_entries(*sizes_of(HALL)):
            self.assertEqual(self.both(HALL, [wrong]), 0)
            self.assertEqual(self.both(HALL, [(3, 3), (1, 1), wrong, (0, 0)]), 2)

    def test_callers_and_ends_have_bounds_of_their_own(self):
        self.assertEqual(pairs_of(HALL, [(5, 9)]), [(1, 4)])
        self.assertEqual(self.both(HALL, [(6, 9)]), 0)
        self.assertEqual(self.both(HALL, [(5, 10)]), 0)
        self.assertEqual(self.both(HALL, [(9, 5)]), 0)

    def test_a_caller_of_an_entry_ahead(self):
        self.assertEqual(self.both(HALL, [(3, 3), (1, 1), (3, 2)]), 2)
        self.assertEqual(self.both(HALL, [(0, 3), (0, 1), (0, 2)]), 1)

    def test_an_end_of_an_entry_ahead(self):
        self.assertEqual(self.both(HALL, [(3, 3), (1, 1), (0, 2), (2, 1)]), 3)
        self.assertEqual(self.both(HALL, [(3, 0), (1, 0), (0, 0)]), 1)

    def test_the_same_entry_twice(self):
        self.assertEqual(self.both(HALL, [(3, 3), (1, 1), (3, 3)]), 2)

    def test_a_caller_may_be_an_end_elsewhere(self):
        self.assertEqual(len(pairs_of(HALL, [(3, 1), (1, 3), (2, 2)])), 3)

    def test_the_first_of_several(self):
        self.assertEqual(self.both(HALL, [(1, 1), None, (1, 1), "x"]), 1)
        self.assertEqual(self.both(HALL, [(1, 1), (1, 2), None]), 1)
        self.assertEqual(self.both(HALL, [(0, 0), (1, 1), Alike(), (0, 0), deep_list(5)]), 2)

    def test_at_every_place(self):
        for hall in (HALL, (3, 2, 4, 2, 5), (12, 12, 24, 12, 12)):
            for table in spoilt_entries(*sizes_of(hall)):
                wanted = wrong_place_by_hand(table, *sizes_of(hall))
                if wanted is None:
                    self.assertEqual(len(pairs_of(hall, table)), len(table))
                else:
                    self.assertEqual(self.both(hall, table), wanted)

    def test_ahead_of_too_full(self):
        hall = (2, 3, 1, 5, 2)
        self.assertEqual(self.place(at_once, hall, [(0, 0), (1, 2), None]), 2)
        self.assertEqual(self.place(at_once, hall, [(0, 0), (1, 2), (0, 4)]), 2)
        # All racks amid are shut.
        self.assertEqual(self.place(at_once, hall, [(0, 0), (6, 2)], 1), 1)

    def test_it_is_a_hall_error(self):
        with self.assertRaises(HallError):
            pairs_of(HALL, [None])


class OpenRacks(unittest.TestCase):  # 5.7
    def test_none_told(self):
        for hall in HALLS:
            self.assertEqual(open_racks(hall), list(range(hall[2])))
            self.assertEqual(open_racks(hall, 0), list(range(hall[2])))

    def test_some_shut(self):
        self.assertEqual(open_racks(HALL, 0b0001), [1, 2, 3])
        self.assertEqual(open_racks(HALL, 0b1000), [0, 1, 2])
        self.assertEqual(open_racks(HALL, 0b1010), [0, 2])
        self.assertEqual(open_racks(HALL, shut=0b0111), [3])

    def test_all_shut(self):
        for hall in HALLS:
            self.assertEqual(open_racks(hall, 2 ** hall[2] - 1), [])

    def test_all_bits_of_a_small_hall(self):
        for amid in range(1, 7):
            for shut in range(2 ** amid):
                hall = (2, 2, amid, 2, 2)
                self.assertEqual(open_racks(hall, shut), open_by_hand(hall, shut))

    def test_what_is_told_is_new(self):  # 0.2
        for shut in (0, 0b0110, 0b1111):
            check_list_is_new(self, open_racks, HALL, shut)


class AtOnce(unittest.TestCase):  # 5.8
    def check(self, hall, table, shut=0):
        before = list(table)
        told = at_once(hall, table, shut)
        self.assertIsInstance(told, list)
        self.assertEqual([(caller, ends) for caller, ends, k in told],
                         [(caller, (end,)) for caller, end in sorted(table)])
        self.assertLessEqual({k for caller, ends, k in told}, set(open_by_hand(hall, shut)))
        self.assertTrue(is_right_by_hand(hall, told))
        self.assertTrue(is_right(hall, told))
        self.assertEqual({type(call) for call in told} | {type(call[1]) for call in told} | {tuple}, {tuple})
        self.assertEqual({type(call[2]) for call in told} | {int}, {int})
        self.assertEqual(table, before)
        return told

    def refuse(self, hall, table, shut=0):
        before = list(table)
        with self.assertRaises(TooFull) as taken:
            at_once(hall, table, shut)
        self.assertEqual(table, before)
        return (taken.exception.side, taken.exception.rack, taken.exception.many)

    def check_either(self, hall, table, shut=0):
        full = full_by_hand(hall, table, len(open_by_hand(hall, shut)))
        if full is None:
            self.check(hall, table, shut)
        else:
            self.assertEqual(self.refuse(hall, table, shut), full)
        return full is None

    def test_of_no_entries(self):
        for hall in HALLS:
            for shut in shuts_of(hall):
                self.assertEqual(at_once(hall, [], shut), [])

    def test_of_one(self):
        self.assertEqual(at_once((1, 1, 1, 1, 1), [(0, 0)]), [(0, (0,), 0)])
        self.assertEqual(at_once(HALL, [(5, 9)], 0b1011), [(5, (9,), 2)])
        self.check(HALL, [(5, 9)])

    def test_as_many_racks_amid_as_the_greatest_weight(self):
        hall = (3, 3, 3, 3, 3)
        for table in itertools.islice(itertools.permutations(range(9)), 0, None, 997):
            told = self.check(hall, list(enumerate(table)))
            self.assertEqual(len({(call[0] // 3, call[2]) for call in told}), 9)

    def test_where_calls_put_one_by_one_would_be_engaged(self):
        hall = (2, 2, 2, 2, 2)
        self.check(hall, [(0, 0), (2, 2), (1, 3), (3, 1)])
        self.check((2, 2, 3, 2, 2), [(0, 0), (2, 2), (1, 3), (3, 1)], 0b010)

    def test_more_racks_amid_than_the_greatest_weight(self):
        for amid in range(3, 25):
            self.check((3, 3, amid, 3, 3), [(caller, (caller * 4 + 1) % 9) for caller in range(9)])

    def test_every_table_of_small_halls(self):
        seen = set()
        for amid in range(1, 4):
            for table in every_entries(4, 4):
                for shut in range(2 ** amid):
                    seen.add(self.check_either((2, 2, amid, 2, 2), table[::-1], shut))
        for table in every_entries(3, 4):
            seen.add(self.check_either((3, 1, 2, 2, 2), table))
            seen.add(self.check_either((1, 3, 3, 4, 1), table))
        self.assertEqual(seen, {True, False})

    def test_of_many(self):
        seen = {True: 0, False: 0}
        for hall, table in many_tables():
            for shut in shuts_of(hall):
                seen[self.check_either(hall, table, shut)] += 1
        self.assertGreater(min(seen.values()), 100)

    def test_just_as_full_as_can_be(self):
        for hall, table in many_tables():
            ready = max(weights_by_hand(pairs_by_hand(hall, table)).values(), default=0)
            if 0 < ready <= 12:
                just = hall[:2] + (ready,) + hall[3:]
                self.assertTrue(self.check_either(just, table))
                self.assertTrue(self.check_either(hall[:2] + (ready + 1,) + hall[3:], table, 1))
                self.assertFalse(self.check_either(just, table, 2 ** (ready - 1)))

    def test_too_full_tells_side_rack_and_many(self):
        hall = (3, 3, 2, 3, 3)
        self.assertEqual(self.refuse(hall, [(3, 0), (4, 3), (5, 6)]), (0, 1, 3))
        self.assertEqual(self.refuse(hall, [(0, 6), (3, 7), (6, 8)]), (1, 2, 3))
        self.assertEqual(self.refuse(hall, [(8, 0), (7, 3), (6, 6), (3, 1), (4, 4), (5, 7)]), (0, 1, 3))
        self.assertEqual(self.refuse(hall, [(0, 0), (3, 1), (6, 2), (7, 4), (8, 7)]), (0, 2, 3))
        self.assertEqual(self.refuse(hall, [(0, 0), (1, 3)], 0b01), (0, 0, 2))
        self.assertEqual(self.refuse(hall, [(8, 8)], 0b11), (0, 2, 1))

    def test_in_every_order_the_same(self):
        for table in ([(0, 0), (1, 3), (2, 1), (3, 2)], [(0, 1), (1, 0), (2, 3)], [(3, 0), (2, 2), (1, 1), (0, 3)]):
            for amid in (2, 3, 5):
                hall = (2, 2, amid, 2, 2)
                self.assertEqual(len({repr(at_once(hall, list(some))) for some in itertools.permutations(table)}), 1)

    def test_in_several_orders_the_same(self):
        for hall, table in many_tables():
            chance = random.Random(f"orders {hall} {len(table)}")
            for shut in shuts_of(hall)[:3]:
                if full_by_hand(hall, table, len(open_by_hand(hall, shut))) is None:
                    wanted = at_once(hall, table, shut)
                    for turn in range(4):
                        mixed = chance.sample(table, len(table))
                        self.assertEqual(at_once(hall, mixed, shut), wanted)
                    self.assertEqual(at_once(hall, sorted(table), shut), wanted)
                    self.assertEqual(at_once(hall, sorted(table)[::-1], shut), wanted)

    def test_in_several_orders_the_same_refusal(self):
        hall = (3, 3, 2, 3, 3)
        table = [(8, 0), (7, 3), (6, 6), (3, 1), (4, 4), (5, 7)]
        for some in itertools.permutations(table):
            self.assertEqual(self.refuse(hall, list(some)), (0, 1, 3))

    def test_what_is_told_is_new(self):  # 0.2
        for table in ([], [(0, 0)], [(4, 9), (0, 0), (3, 1)]):
            check_list_is_new(self, at_once, HALL, table, 0b0100)


if __name__ == "__main__":
    unittest.main()
