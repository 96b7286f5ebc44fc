import copy
import itertools
import random
import unittest

from crossracks.chains import chain_in, chain_out, moved, moves_of
from crossracks.errors import NoMove
from samples import HALLS, chain_by_hand, held_lines_of, is_right_by_hand, many_right_calls, narrow_calls

# Four in racks of two callers, four out racks of two ends, three racks amid.
HALL = (4, 2, 3, 4, 2)
# By 0: in rack 0 to out rack 0, 1 to 1, 2 to 2. By 1: in rack 0 to out rack 1, 1 to 2, 3 to 3.
CALLS = [(0, (0,), 0), (1, (2,), 1), (2, (3,), 0), (3, (4,), 1), (4, (5,), 0), (6, (6, 7), 1)]
# The two racks amid bear a ring: in racks 0 and 1, out racks 0 and 1.
RING = [(0, (0,), 0), (1, (2,), 1), (2, (3,), 0), (3, (1,), 1)]


class ChainOut(unittest.TestCase):  # 4.1
    def test_of_no_call(self):
        self.assertEqual(chain_out(HALL, [], 0, 0, 1), [])
        self.assertEqual(chain_out(HALL, CALLS, 3, 0, 1), [])
        self.assertEqual(chain_out(HALL, CALLS, 0, 1, 0), [])
        self.assertEqual(chain_out(HALL, CALLS, 0, 2, 0), [])

    def test_of_one_call(self):
        self.assertEqual(chain_out(HALL, CALLS, 2, 0, 1), [4])
        self.assertEqual(chain_out(HALL, CALLS, 0, 0, 2), [0])
        self.assertEqual(chain_out(HALL, CALLS, 3, 1, 0), [6])

    def test_of_several(self):
        self.assertEqual(chain_out(HALL, CALLS, 0, 0, 1), [0, 1, 2, 3, 4])
        self.assertEqual(chain_out(HALL, CALLS, 1, 0, 1), [2, 3, 4])
        self.assertEqual(chain_out(HALL, CALLS, 2, 1, 0), [3, 2, 1, 0])
        self.assertEqual(chain_out(HALL, CALLS, 1, 1, 0), [1, 0])

    def test_that_comes_back(self):
        self.assertEqual(chain_out(HALL, RING, 0, 0, 1), [0, 1, 2, 3])
        self.assertEqual(chain_out(HALL, RING, 1, 0, 1), [2, 3, 0, 1])
        self.assertEqual(chain_out(HALL, RING, 0, 1, 0), [3, 2, 1, 0])
        self.assertEqual(chain_out(HALL, RING, 1, 1, 0), [1, 0, 3, 2])
        pair = [(0, (0,), 2), (1, (1,), 1)]
        self.assertEqual(chain_out(HALL, pair, 0, 2, 1), [0, 1])
        self.assertEqual(chain_out(HALL, pair, 0, 1, 2), [1, 0])


class ChainIn(unittest.TestCase):  # 4.1
    def test_of_no_call(self):
        self.assertEqual(chain_in(HALL, [], 0, 0, 1), [])
        self.assertEqual(chain_in(HALL, CALLS, 2, 0, 1), [])
        self.assertEqual(chain_in(HALL, CALLS, 3, 1, 0), [])
        self.assertEqual(chain_in(HALL, CALLS, 0, 0, 2), [])

    def test_of_one_call(self):
        self.assertEqual(chain_in(HALL, CALLS, 3, 0, 1), [6])
        self.assertEqual(chain_in(HALL, CALLS, 0, 1, 0), [0])
        self.assertEqual(chain_in(HALL, CALLS, 1, 2, 1), [3])

    def test_of_several(self):
        self.assertEqual(chain_in(HALL, CALLS, 0, 0, 1), [1, 2, 3, 4])
        self.assertEqual(chain_in(HALL, CALLS, 1, 0, 1), [3, 4])
        self.assertEqual(chain_in(HALL, CALLS, 2, 1, 0), [4, 3, 2, 1, 0])

    def test_that_comes_back(self):
        self.assertEqual(chain_in(HALL, RING, 0, 0, 1), [1, 2, 3, 0])
        self.assertEqual(chain_in(HALL, RING, 1, 0, 1), [3, 0, 1, 2])
        self.assertEqual(chain_in(HALL, RING, 0, 1, 0), [0, 3, 2, 1])
        self.assertEqual(chain_in(HALL, RING, 1, 1, 0), [2, 1, 0, 3])


class NotNarrow(unittest.TestCase):  # 4.1
    wide = [(0, (0, 2), 0), (2, (3,), 1), (4, (6,), 0)]

    def test_at_the_beginning(self):
        self.assertIsNone(chain_out(HALL, self.wide, 0, 0, 1))
        self.assertIsNone(chain_out(HALL, self.wide, 1, 0, 1))
        self.assertIsNone(chain_in(HALL, self.wide, 0, 1, 0))
        self.assertIsNone(chain_out(HALL, [(0, (0, 2), 0)], 1, 0, 2))

    def test_further_on(self):
        self.assertIsNone(chain_in(HALL, self.wide, 1, 0, 1))
        calls = [(0, (0,), 0), (1, (2,), 1), (2, (3,), 0), (3, (4, 6), 1)]
        self.assertIsNone(chain_out(HALL, calls, 0, 0, 1))
        self.assertIsNone(chain_out(HALL, calls, 1, 0, 1))
        self.assertIsNone(chain_in(HALL, calls, 0, 0, 1))

    def test_where_it_does_not_come_there(self):
        self.assertEqual(chain_out(HALL, self.wide, 3, 0, 1), [4])
        self.assertEqual(chain_out(HALL, self.wide, 0, 1, 0), [])
        self.assertEqual(chain_out(HALL, self.wide, 0, 2, 1), [])
        self.assertEqual(chain_in(HALL, self.wide, 0, 0, 1), [])
        self.assertEqual(chain_out(HALL, self.wide, 1, 1, 2), [2])
        calls = [(0, (0,), 0), (1, (2,), 1), (2, (3,), 0), (3, (4, 6), 1)]
        self.assertEqual(chain_out(HALL, calls, 1, 1, 0), [1, 0])

    def test_several_ends_in_one_rack_are_narrow(self):
        calls = [(0, (0, 1), 0), (1, (2, 3), 1)]
        self.assertEqual(chain_out(HALL, calls, 0, 0, 1), [0, 1])
        self.assertEqual(chain_in(HALL, calls, 0, 1, 0), [0])


class Chains(unittest.TestCase):  # 4.1, 4.2, 4.5
    def every_two(self, hall):
        return itertools.islice(itertools.permutations(range(hall[2]), 2), 30)

    def test_against_a_walk_along_the_lines(self):
        seen = set()
        halls = [(4, 2, 3, 4, 2), (3, 3, 2, 5, 2), (5, 2, 4, 3, 3), (2, 2, 2, 2, 2)]
        samples = many_right_calls() + [(hall, narrow_calls(hall, seed)) for hall in halls for seed in range(40)]
        for hall, calls in samples:
            for a, b in self.every_two(hall):
                for rack in range(hall[3]):
                    told = chain_out(hall, calls, rack, a, b)
                    self.assertEqual(told, chain_by_hand(hall, calls, True, rack, a, b))
                    seen.add(told is None or min(len(told), 4))
                for rack in range(hall[0]):
                    told = chain_in(hall, calls, rack, a, b)
                    self.assertEqual(told, chain_by_hand(hall, calls, False, rack, a, b))
        self.assertEqual(seen, {True, 0, 1, 2, 3, 4})

    def check_exchange(self, hall, calls, chain, a, b, line):
        """The exchange on a chain is right, and frees the line at which it begins."""
        told = moved(hall, calls, moves_of(calls, chain, a, b))
        self.assertTrue(is_right_by_hand(hall, told))
        self.assertNotIn(line, held_lines_of(hall, told))
        self.assertEqual([call[:2] for call in told], [call[:2] for call in calls])
        for old, new in zip(calls, told):
            wanted = (a if old[2] == b else b) if old[0] in chain else old[2]
            self.assertEqual(new[2], wanted)

    def test_the_exchange_on_a_chain(self):
        for hall in ((4, 2, 3, 4, 2), (3, 3, 2, 5, 2), (6, 2, 3, 6, 2)):
            for seed in range(60):
                calls = narrow_calls(hall, seed)
                held = held_lines_of(hall, calls)
                for a, b in itertools.permutations(range(hall[2]), 2):
                    for rack in range(hall[3]):
                        if ("out", b, rack) not in held:
                            chain = chain_out(hall, calls, rack, a, b)
                            self.check_exchange(hall, calls, chain, a, b, ("out", a, rack))
                    for rack in range(hall[0]):
                        if ("in", rack, a) not in held:
                            chain = chain_in(hall, calls, rack, a, b)
                            self.check_exchange(hall, calls, chain, a, b, ("in", rack, b))

    def test_the_two_chains_of_one_a_and_b(self):
        calls = [(0, (0,), 1), (2, (1,), 0), (3, (6,), 1), (4, (2,), 0)]
        self.assertEqual(chain_out(HALL, calls, 1, 0, 1), [4])
        self.assertEqual(chain_in(HALL, calls, 0, 0, 1), [0, 2, 3])

    def test_the_two_chains_have_no_rack_in_common(self):
        longest = 0
        for hall in ((4, 2, 2, 4, 2), (3, 3, 2, 5, 2), (6, 2, 3, 6, 2)):
            for seed in range(60):
                calls = narrow_calls(hall, seed)
                held = held_lines_of(hall, calls)
                for a, b in itertools.permutations(range(hall[2]), 2):
                    for i, j in itertools.product(range(hall[0]), range(hall[3])):
                        if ("in", i, a) in held or ("out", b, j) in held:
                            continue
                        one = chain_out(hall, calls, j, a, b)
                        other = chain_in(hall, calls, i, a, b)
                        racks = [{("in", call[0] // hall[1]) for call in calls if call[0] in chain}
                                 | {("out", call[1][0] // hall[4]) for call in calls if call[0] in chain}
                                 for chain in (one, other)]
                        self.assertFalse((racks[0] | {("out", j)}) & (racks[1] | {("in", i)}))
                        self.assertLessEqual(len(one) + len(other), hall[0] + hall[3] - 2)
                        longest = max(longest, len(one) + len(other))
        self.assertGreater(longest, 5)

    def test_what_is_handed_in_stays_and_what_is_told_is_new(self):  # 0.2
        calls = copy.deepcopy(CALLS)
        for tell, wanted in ((chain_out, [0, 1, 2, 3, 4]), (chain_in, [1, 2, 3, 4])):
            tell(HALL, calls, 0, 0, 1).clear()
            self.assertEqual(tell(HALL, calls, 0, 0, 1), wanted)
            tell(HALL, [], 0, 0, 1).append(7)
            self.assertEqual(tell(HALL, [], 0, 0, 1), [])
        self.assertEqual(calls, CALLS)


class MovesOf(unittest.TestCase):  # 4.2
    def test_in_the_order_of_the_callers(self):
        wanted = {0: (0, 0, 1), 1: (1, 1, 0), 2: (2, 0, 1), 3: (3, 1, 0), 4: (4, 0, 1), 6: (6, 1, 0)}
        for many in range(4):
            for chain in itertools.permutations(wanted, many):
                for a, b in ((0, 1), (1, 0)):
                    told = moves_of(CALLS, list(chain), a, b)
                    self.assertEqual(told, [wanted[caller] for caller in chain])

    def test_one_rack_of_the_two_alone(self):
        self.assertEqual(moves_of(CALLS, [4, 0, 2], 0, 2), [(4, 0, 2), (0, 0, 2), (2, 0, 2)])
        self.assertEqual(moves_of(CALLS, [6, 1], 2, 1), [(6, 1, 2), (1, 1, 2)])

    def test_tuples_are_told(self):
        self.assertEqual({type(move) for move in moves_of(CALLS, [0, 1, 2], 0, 1)}, {tuple})

    def test_what_is_handed_in_stays_and_what_is_told_is_new(self):  # 0.2
        calls, chain = copy.deepcopy(CALLS), [4, 1, 0]
        moves_of(calls, chain, 0, 1).clear()
        self.assertEqual(moves_of(calls, chain, 0, 1), [(4, 0, 1), (1, 1, 0), (0, 0, 1)])
        self.assertEqual((calls, chain), (CALLS, [4, 1, 0]))
        moves_of(calls, [], 0, 1).append(7)
        self.assertEqual(moves_of(calls, [], 0, 1), [])


class Moved(unittest.TestCase):  # 4.2
    hall = (2, 2, 3, 3, 2)
    calls = [(0, (0,), 0), (1, (2,), 1), (2, (3, 4), 2)]

    def refuse(self, *moves):
        before = copy.deepcopy(self.calls)
        handed = list(moves)
        with self.subTest(moves=moves), self.assertRaises(NoMove):
            moved(self.hall, self.calls, handed)
        self.assertEqual((self.calls, handed), (before, list(moves)))

    def test_no_moves(self):
        self.assertEqual(moved(self.hall, self.calls, []), self.calls)
        self.assertEqual(moved(self.hall, [], []), [])

    def test_one_move(self):
        self.assertEqual(moved(self.hall, self.calls, [(0, 0, 2)]), [(0, (0,), 2)] + self.calls[1:])
        self.assertEqual(moved(self.hall, self.calls, [(2, 2, 0)]), self.calls[:2] + [(2, (3, 4), 0)])

    def test_the_two_racks_are_one(self):
        self.assertEqual(moved(self.hall, self.calls, [(1, 1, 1)]), self.calls)
        self.assertEqual(moved(self.hall, self.calls, [(0, 0, 0), (2, 2, 2), (1, 1, 1)]), self.calls)

    def test_right_only_all_at_once(self):
        swap = [(0, 0, 1), (1, 1, 0)]
        wanted = [(0, (0,), 1), (1, (2,), 0), (2, (3, 4), 2)]
        self.refuse(swap[0])
        self.refuse(swap[1])
        self.assertEqual(moved(self.hall, self.calls, swap), wanted)
        self.assertEqual(moved(self.hall, self.calls, swap[::-1]), wanted)
        ring = [(1, 1, 2), (2, 2, 1)]
        self.refuse(ring[0])
        self.refuse(ring[1])
        self.assertEqual(moved(self.hall, self.calls, ring), [(0, (0,), 0), (1, (2,), 2), (2, (3, 4), 1)])

    def test_two_moves_of_one_caller(self):
        self.refuse((0, 0, 2), (0, 0, 2))
        self.refuse((0, 0, 2), (0, 2, 0))
        self.refuse((0, 0, 0), (0, 0, 2))
        self.refuse((0, 0, 0), (1, 1, 1), (0, 0, 0))

    def test_a_mover_without_a_call(self):
        self.refuse((3, 0, 1))
        self.refuse((3, 0, 0))
        self.refuse((4, 0, 1))
        self.refuse((-1, 2, 0))
        self.refuse((0, 0, 2), (3, 1, 1))
        self.refuse((999, 0, 0))

    def test_a_call_that_goes_by_another_rack(self):
        self.refuse((0, 1, 2))
        self.refuse((0, 2, 0))
        self.refuse((0, 1, 0))
        self.refuse((0, -3, 2))
        self.refuse((0, 0, 2), (1, 0, 1))

    def test_no_rack_amid_of_the_hall(self):
        self.refuse((0, 0, 3))
        self.refuse((0, 0, -1))
        self.refuse((2, 2, 24))
        self.refuse((0, 0, 10 ** 3000))
        self.refuse((0, 0, 2), (1, 1, 3))

    def test_what_comes_is_not_right(self):
        self.refuse((0, 0, 1))
        self.refuse((1, 1, 2))
        self.refuse((0, 0, 2), (1, 1, 2))
        self.refuse((2, 2, 1))

    def test_every_list_of_two_moves(self):
        numbers = list(itertools.product(range(-1, 4), range(-1, 4), range(-1, 4)))
        for moves in itertools.product(numbers, repeat=2):
            wanted = {call[0]: call[2] for call in self.calls}
            fine = moves[0][0] != moves[1][0]
            for caller, k, other in moves:
                fine = fine and wanted.get(caller) == k and 0 <= other < 3
            wanted.update({caller: other for caller, k, other in moves})
            behind = [(caller, ends, wanted[caller]) for caller, ends, k in self.calls]
            if fine and is_right_by_hand(self.hall, behind):
                self.assertEqual(moved(self.hall, self.calls, list(moves)), behind)
            else:
                with self.assertRaises(NoMove):
                    moved(self.hall, self.calls, list(moves))

    def test_moves_of_many_calls(self):  # 0.4
        told = 0
        for seed, (hall, calls) in enumerate(many_right_calls()):
            chance = random.Random(seed)
            for turn in range(20):
                movers = chance.sample(calls, min(len(calls), chance.randint(0, 3)))
                moves = [(caller, k, chance.randrange(hall[2])) for caller, ends, k in movers]
                goals = {caller: other for caller, k, other in moves}
                behind = [(caller, ends, goals.get(caller, k)) for caller, ends, k in calls]
                if is_right_by_hand(hall, behind):
                    told += 1
                    self.assertEqual(moved(hall, calls, moves), behind)
                else:
                    with self.assertRaises(NoMove):
                        moved(hall, calls, moves)
        self.assertGreater(told, len(HALLS) * 20)

    def test_what_is_handed_in_stays_and_what_is_told_is_new(self):  # 0.2
        before = copy.deepcopy(self.calls)
        for moves in ([], [(0, 0, 2)], [(0, 0, 0)]):
            handed = list(moves)
            told = moved(self.hall, self.calls, handed)
            wanted = list(told)
            told.clear()
            self.assertEqual(moved(self.hall, self.calls, handed), wanted)
            self.assertEqual((self.calls, handed), (before, moves))


if __name__ == "__main__":
    unittest.main()
