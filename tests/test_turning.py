import copy
import itertools
import random
import unittest

from crossracks.calling import ended
from crossracks.errors import Busy, Engaged, NoLine
from crossracks.turning import joined_turning, room
from samples import (
    STRANGE, Alike, asks_of, chain_by_hand, crowded_calls, held_lines_of, is_idle, is_right_by_hand, lines_of,
    many_asks, right_lists, shuts_of, ways_by_hand)

# In rack 0 holds its line to 0, out rack 1 its line from 1.
SMALL = (2, 2, 2, 2, 2)
SMALL_CALLS = [(0, (0,), 0), (2, (2,), 1)]
WIDE_ENDS = [(0, 2), (0, 3), (1, 2), (1, 3)]
# Two calls are not narrow: the one by 0 from in rack 0, the one by 2 to out rack 2.
WIDE_HALL = (3, 3, 4, 3, 3)
WIDE_CALLS = [(0, (0, 3), 0), (1, (1,), 1), (3, (4, 6), 2), (6, (7,), 3)]


def holds_by_hand(hall, calls, caller, ends):
    return [[call[0] for call in calls if lines_of(hall, *call) & lines_of(hall, caller, ends, k)]
            for k in range(hall[2])]


def is_open(shut, k):
    return shut // 2 ** k % 2 == 0


def two_by_hand(hall, calls, caller, ends, shut):
    """Tuples (a, b, chain from the ends' rack, chain from the in rack) of all two racks amid in their order."""
    held = held_lines_of(hall, calls)
    i, j = caller // hall[1], ends[0] // hall[4]
    every = [k for k in range(hall[2]) if is_open(shut, k)]
    return ((a, b, chain_by_hand(hall, calls, True, j, a, b), chain_by_hand(hall, calls, False, i, a, b))
            for a in every if ("in", i, a) not in held
            for b in every if ("out", b, j) not in held)


def room_by_hand(hall, calls, caller, ends, shut=0):
    """A tuple (what it was, moves, k); moves and k are None where it is to be refused with Engaged."""
    free = ways_by_hand(hall, calls, caller, ends, shut)
    if free:
        return ("way", [], free[0])
    if len({end // hall[4] for end in ends}) > 1:
        return ("several racks", None, None)
    by = {call[0]: call[2] for call in calls}
    for place, (a, b, far, near) in enumerate(two_by_hand(hall, calls, caller, ends, shut)):
        found = [chain for chain in (far, near) if chain is not None]
        if found:
            chain = min(found, key=len)
            moves = [(mover, by[mover], a + b - by[mover]) for mover in chain]
            kinds = ("far" if chain is far else "near", far is None or near is None, place > 0, min(len(chain), 2))
            return (kinds, moves, a if chain is far else b)
    return ("no chain", None, None)


def behind_by_hand(calls, moves):
    goals = {mover: other for mover, k, other in moves}
    return [(caller, ends, goals.get(caller, k)) for caller, ends, k in calls]


def refusal(kind, function, *things):
    """The refusal of a room or a joining, behind which nothing handed in is changed."""
    before = (list(things[1]), copy.copy(things[3]))
    try:
        function(*things)
    except kind as error:
        assert type(error) is kind and before == (things[1], things[3])
        return error
    raise AssertionError(f"not refused with {kind.__name__}: {things}")


def crowded_asks():
    """Tuples (hall, calls, caller, ends) of halls with few ways left, most of them with calls that are not narrow."""
    halls = [(2, 2, 2, 2, 2), (3, 3, 3, 3, 3), (3, 3, 4, 3, 3), (4, 3, 4, 4, 3), (6, 2, 3, 6, 2), (5, 4, 5, 4, 5)]
    found = []
    for hall, seed, most_ends in itertools.product(halls, range(25), (1, 2, 3)):
        calls = crowded_calls(hall, seed, most_ends)
        found.extend((hall, calls, caller, ends) for caller, ends in asks_of(hall, seed, 2))
        found.extend((hall, calls, caller, ends[:1]) for caller, ends in asks_of(hall, seed + 1000, 8))
        # With two calls ended, the caller of the one and ends of the other are idle.
        one, other = random.Random(seed).sample(calls, 2)
        left = [call for call in calls if call not in (one, other)]
        found.extend((hall, left, *asked) for asked in ((one[0], list(other[1])), (other[0], list(one[1][:1]))))
    return found


class Ways(unittest.TestCase):  # 4.3
    def test_the_first_way_and_no_moves(self):
        self.assertEqual(room(SMALL, [], 0, [0]), ([], 0))
        self.assertEqual(room(SMALL, SMALL_CALLS, 1, [1]), ([], 1))
        self.assertEqual(room(WIDE_HALL, WIDE_CALLS, 8, [2]), ([], 2))
        self.assertEqual(room((1, 1, 1, 1, 1), [], 0, [0]), ([], 0))

    def test_by_open_racks(self):
        self.assertEqual(room(SMALL, [], 0, [0], 0b01), ([], 1))
        self.assertEqual(room(SMALL, [], 0, [0], 0b10), ([], 0))
        self.assertEqual(room(WIDE_HALL, [], 0, [0], shut=0b0111), ([], 3))

    def test_ends_in_several_racks(self):
        self.assertEqual(room(SMALL, [], 1, [3, 0]), ([], 0))
        self.assertEqual(room(WIDE_HALL, WIDE_CALLS, 5, (2, 5)), ([], 3))


class Chosen(unittest.TestCase):  # 4.3
    hall = (3, 2, 2, 3, 2)

    def test_of_two_as_long_the_one_from_the_ends_rack(self):
        self.assertEqual(room(SMALL, SMALL_CALLS, 1, [3]), ([(2, 1, 0)], 1))
        self.assertEqual(room(SMALL, SMALL_CALLS, 3, [1]), ([(0, 0, 1)], 0))

    def test_the_shorter_one_from_the_in_rack(self):
        calls = [(0, (0,), 0), (2, (4,), 1), (3, (2,), 0)]
        self.assertEqual(room(self.hall, calls, 1, [5]), ([(0, 0, 1)], 0))

    def test_the_shorter_one_from_the_ends_rack(self):
        calls = [(0, (0,), 0), (2, (1,), 1), (3, (2,), 0), (4, (4,), 1)]
        self.assertEqual(room(self.hall, calls, 1, [5]), ([(4, 1, 0)], 1))

    def test_of_one_that_is_none_the_other_one(self):
        calls = [(0, (0,), 0), (2, (1,), 1), (4, (2, 4), 1)]
        self.assertEqual(room(self.hall, calls, 1, [5]), ([(0, 0, 1), (2, 1, 0)], 0))
        calls = [(0, (0, 2), 0), (4, (4,), 1)]
        self.assertEqual(room(self.hall, calls, 1, [5]), ([(4, 1, 0)], 1))

    def test_moves_in_the_order_of_the_chain(self):
        calls = [(0, (0, 2), 0), (4, (6,), 0), (5, (4,), 1), (6, (7,), 1)]
        self.assertEqual(room((4, 2, 2, 4, 2), calls, 1, [5]), ([(5, 1, 0), (4, 0, 1), (6, 1, 0)], 1))

    def test_several_ends_of_one_rack(self):
        hall = (2, 2, 2, 2, 3)
        calls = [(0, (0, 1), 0), (2, (3,), 1)]
        self.assertEqual(room(hall, calls, 1, [5, 4]), ([(2, 1, 0)], 1))
        self.assertEqual(room(hall, calls, 1, (4, 5)), ([(2, 1, 0)], 1))

    def test_the_first_two_though_later_ones_have_shorter_chains(self):
        calls = [(0, (0,), 0), (1, (4,), 1), (3, (6,), 2), (4, (3,), 0), (6, (1,), 2), (7, (7,), 3)]
        self.assertEqual(room(WIDE_HALL, calls, 2, [8]), ([(3, 2, 0), (4, 0, 2)], 2))
        self.assertEqual(room(WIDE_HALL, calls, 2, [8], 0b0001), ([(3, 2, 1)], 2))

    def test_a_rises_and_for_each_a_b(self):
        # By 2 and 0 both chains are None; by 2 and 1 the one from the in rack is not, nor is one by 3 and 0.
        self.assertEqual(room(WIDE_HALL, WIDE_CALLS, 2, [8]), ([(1, 1, 2)], 1))

    def test_shut_racks_are_neither_a_nor_b(self):
        for shut, wanted in (
            (0b0001, ([(1, 1, 2)], 1)), (0b0010, ([(6, 3, 0)], 3)), (0b0100, ([(6, 3, 0)], 3)),
            (0b1000, ([(1, 1, 2)], 1)), (0b0101, ([(6, 3, 1)], 3)), (0b1001, ([(1, 1, 2)], 1)),
        ):
            self.assertEqual(room(WIDE_HALL, WIDE_CALLS, 2, [8], shut), wanted, bin(shut))

    def test_a_call_of_the_caller_or_to_the_ends_is_like_any_other(self):  # 2.2
        self.assertEqual(room(SMALL, SMALL_CALLS, 0, [3]), ([(2, 1, 0)], 1))
        self.assertEqual(room(SMALL, SMALL_CALLS, 1, [2]), ([(2, 1, 0)], 1))
        self.assertEqual(room(SMALL, SMALL_CALLS, 2, [0]), ([(0, 0, 1)], 0))


class RefusedEngaged(unittest.TestCase):  # 4.3
    def check(self, hall, calls, caller, ends, shut, holds, least):
        for function in (room, joined_turning):
            error = refusal(Engaged, function, hall, calls, caller, ends, shut)
            self.assertEqual((error.holds, error.least), (holds, least))

    def test_both_chains_are_none(self):
        self.check((3, 2, 2, 3, 2), [(0, (0, 2), 0), (4, (3, 4), 1)], 1, [5], 0, [[0], [4]], [0])
        self.check(WIDE_HALL, WIDE_CALLS, 2, [8], 0b1010, [[0], [1], [3], [6]], [0])

    def test_no_a(self):
        self.check(WIDE_HALL, WIDE_CALLS, 2, [8], 0b1100, [[0], [1], [3], [6]], [0])
        self.check((1, 2, 1, 2, 1), [(0, (0,), 0)], 1, [1], 0, [[0]], [0])

    def test_no_b(self):
        self.check(WIDE_HALL, WIDE_CALLS, 2, [8], 0b0011, [[0], [1], [3], [6]], [3])
        self.check((2, 1, 1, 1, 2), [(0, (0,), 0)], 1, [1], 0, [[0]], [0])

    def test_all_shut(self):
        self.check(WIDE_HALL, WIDE_CALLS, 2, [8], 0b1111, [[0], [1], [3], [6]], None)
        self.check(SMALL, [], 1, [3], 0b11, [[], []], None)

    def test_ends_in_several_racks(self):
        self.check(SMALL, SMALL_CALLS, 1, [1, 3], 0, [[0], [2]], [0])
        self.check(SMALL, SMALL_CALLS, 1, (3, 1), 0b01, [[0], [2]], [2])

    def test_the_lists_are_the_askers_own(self):  # 0.2
        for function in (room, joined_turning):
            error = refusal(Engaged, function, SMALL, SMALL_CALLS, 1, [1, 3])
            error.holds[0].append(7)
            error.holds.clear()
            self.assertEqual(error.least, [0])
            error.least.clear()
            self.check(SMALL, SMALL_CALLS, 1, [1, 3], 0, [[0], [2]], [0])


class RoomByHand(unittest.TestCase):  # 4.3
    def check(self, hall, calls, caller, ends, shut):
        """The room is the one found by hand; tells what it was."""
        before = (list(calls), copy.copy(ends))
        kind, moves, k = room_by_hand(hall, calls, caller, ends, shut)
        if moves is None:
            error = refusal(Engaged, room, hall, calls, caller, ends, shut)
            holds = holds_by_hand(hall, calls, caller, ends)
            left = [holds[one] for one in range(hall[2]) if is_open(shut, one)]
            self.assertEqual((error.holds, error.least), (holds, min(left, key=len, default=None)))
            return kind
        told = room(hall, calls, caller, ends, shut)
        self.assertEqual(told, (moves, k))
        self.assertIsInstance(told, tuple)
        self.assertIsInstance(told[0], list)
        self.assertEqual({type(move) for move in told[0]} - {tuple}, set())
        behind = behind_by_hand(calls, moves)
        self.assertTrue(is_right_by_hand(hall, behind))
        self.assertIn(k, ways_by_hand(hall, behind, caller, ends, shut))
        self.assertEqual((calls, ends), before)
        return kind

    def test_of_crowded_halls(self):
        seen = set()
        for hall, calls, caller, ends in crowded_asks():
            for shut in shuts_of(hall):
                seen.add(self.check(hall, calls, caller, ends, shut))
        self.assertLessEqual({"way", "several racks", "no chain"}, seen)
        chains = {kind for kind in seen if isinstance(kind, tuple)}
        # From both sides, beside a None or not, of the first two racks amid or later ones, of one move or more.
        wanted = set(itertools.product(("far", "near"), (False, True), (False, True), (1, 2)))
        self.assertLessEqual(wanted - {("near", False, True, 2)}, chains)

    def test_of_many_calls(self):
        for hall, calls, caller, ends in many_asks():
            for shut in shuts_of(hall):
                self.check(hall, calls, caller, ends, shut)

    def test_all_right_calls_of_a_small_hall(self):
        seen = set()
        for calls in right_lists(SMALL, 2):
            for caller, end in itertools.product(range(4), range(4)):
                seen.add(self.check(SMALL, calls, caller, [end], 0))
        self.assertEqual(seen, {"way", "no chain", ("far", False, False, 1)})

    def test_what_is_told_is_new(self):  # 0.2
        calls = copy.deepcopy(SMALL_CALLS)
        for caller, ends, wanted in ((1, [3], ([(2, 1, 0)], 1)), (1, [1], ([], 1))):
            told = room(SMALL, calls, caller, ends)
            told[0].append(7)
            self.assertEqual(room(SMALL, calls, caller, ends), wanted)
        self.assertEqual(calls, SMALL_CALLS)


class JoinedTurning(unittest.TestCase):  # 4.4
    def test_without_moves(self):
        self.assertEqual(joined_turning(SMALL, [], 3, [1]), ([], [(3, (1,), 0)]))
        self.assertEqual(joined_turning(SMALL, [], 3, [1], 0b01), ([], [(3, (1,), 1)]))
        self.assertEqual(joined_turning(SMALL, SMALL_CALLS, 1, [1]), ([], [(0, (0,), 0), (1, (1,), 1), (2, (2,), 1)]))
        self.assertEqual(joined_turning(SMALL, [], 2, (3, 0)), ([], [(2, (0, 3), 0)]))

    def test_with_moves(self):
        self.assertEqual(joined_turning(SMALL, SMALL_CALLS, 1, [3]),
                         ([(2, 1, 0)], [(0, (0,), 0), (1, (3,), 1), (2, (2,), 0)]))
        self.assertEqual(joined_turning(SMALL, SMALL_CALLS, 3, [1]),
                         ([(0, 0, 1)], [(0, (0,), 1), (2, (2,), 1), (3, (1,), 0)]))
        self.assertEqual(joined_turning(WIDE_HALL, WIDE_CALLS, 2, [8], shut=0b0010),
                         ([(6, 3, 0)], [(0, (0, 3), 0), (1, (1,), 1), (2, (8,), 3), (3, (4, 6), 2), (6, (7,), 0)]))

    def test_the_ends_rise(self):
        hall = (2, 2, 2, 2, 4)
        calls = [(0, (0, 1), 0), (2, (4,), 1)]
        for ends in itertools.permutations((5, 6, 7)):
            wanted = ([(2, 1, 0)], [(0, (0, 1), 0), (1, (5, 6, 7), 1), (2, (4,), 0)])
            self.assertEqual(joined_turning(hall, calls, 1, list(ends)), wanted)
            told = joined_turning(hall, calls, 1, ends)
            self.assertEqual(told, wanted)
            self.assertIsInstance(told, tuple)
            self.assertIsInstance(told[1][1], tuple)
            self.assertIsInstance(told[1][1][1], tuple)

    def test_against_room_by_hand(self):
        seen = set()
        for hall, calls, caller, ends in crowded_asks() + many_asks():
            if not is_idle(calls, caller, ends):
                continue
            before = (list(calls), copy.copy(ends))
            for shut in shuts_of(hall):
                kind, moves, k = room_by_hand(hall, calls, caller, ends, shut)
                seen.add("refused" if moves is None else min(len(moves), 3))
                if moves is None:
                    refusal(Engaged, joined_turning, hall, calls, caller, ends, shut)
                else:
                    wanted = behind_by_hand(calls, moves) + [(caller, tuple(sorted(ends)), k)]
                    told = joined_turning(hall, calls, caller, ends, shut)
                    self.assertEqual(told, (moves, sorted(wanted)))
                    self.assertTrue(is_right_by_hand(hall, told[1]))
                    self.assertEqual([call[:2] for call in told[1] if call[0] != caller],
                                     [call[:2] for call in calls])
                self.assertEqual((calls, ends), before)
        self.assertEqual(seen, {"refused", 0, 1, 2, 3})

    def test_what_is_told_is_new(self):  # 0.2
        calls = copy.deepcopy(SMALL_CALLS)
        for ends in ([3], [1]):
            told = joined_turning(SMALL, calls, 1, ends)
            wanted = copy.deepcopy(told)
            told[0].append(7)
            told[1].clear()
            self.assertEqual(joined_turning(SMALL, calls, 1, ends), wanted)
            self.assertEqual(calls, SMALL_CALLS)
        told = joined_turning(SMALL, [], 0, [0])
        told[1].clear()
        self.assertEqual(joined_turning(SMALL, [], 0, [0]), ([], [(0, (0,), 0)]))


class RefusedAhead(unittest.TestCase):  # 4.4
    def test_no_caller(self):
        for caller in STRANGE + [Alike(), -1, 4, 999, 10 ** 3000, [1], (1,), "1"]:
            with self.subTest(caller=repr(caller)[:40]):
                refusal(NoLine, joined_turning, SMALL, SMALL_CALLS, caller, [3])

    def test_no_ends(self):
        for ends in STRANGE + [3, [], (), [3, 3], (1, 3, 1), [4], [-1], [3, 4], [3, None], [True], [3, False], [3.0],
                               ["3"], [[3]], ([3],), {3}, {3: 3}, range(3, 4), "3", Alike(), [Alike()], (3, Alike())]:
            if not (isinstance(ends, (list, tuple)) and list(ends) == [1]):
                with self.subTest(ends=repr(ends)[:40]), self.assertRaises(NoLine):
                    joined_turning(SMALL, SMALL_CALLS, 1, ends)

    def test_no_line_ahead_of_busy_and_engaged(self):
        refusal(NoLine, joined_turning, SMALL, SMALL_CALLS, 0, [4])
        refusal(NoLine, joined_turning, SMALL, SMALL_CALLS, 4, [0])
        refusal(NoLine, joined_turning, SMALL, SMALL_CALLS, True, [0])
        refusal(NoLine, joined_turning, SMALL, SMALL_CALLS, 1, [0, 0])
        refusal(NoLine, joined_turning, SMALL, SMALL_CALLS, 4, [3], 0b11)
        refusal(NoLine, joined_turning, SMALL, SMALL_CALLS, 1, [3, 3], 0b11)

    def test_a_busy_caller(self):
        for caller in (0, 2):
            self.assertEqual(refusal(Busy, joined_turning, SMALL, SMALL_CALLS, caller, [3]).who, caller)
        self.assertEqual(refusal(Busy, joined_turning, SMALL, SMALL_CALLS, 2, [0]).who, 2)
        self.assertEqual(refusal(Busy, joined_turning, SMALL, SMALL_CALLS, 0, [3, 2]).who, 0)

    def test_busy_ends(self):
        for ends, who in (([0], 0), ([3], 0), ([4], 3), ([6, 4], 3), ([7, 5, 6], 3), ([4, 3], 0), ((7, 1), 1)):
            self.assertEqual(refusal(Busy, joined_turning, WIDE_HALL, WIDE_CALLS, 8, ends).who, who, ends)

    def test_busy_ahead_of_engaged(self):
        self.assertEqual(refusal(Busy, joined_turning, SMALL, SMALL_CALLS, 0, [1, 3], 0b11).who, 0)
        self.assertEqual(refusal(Busy, joined_turning, SMALL, SMALL_CALLS, 1, [3, 2], 0b11).who, 2)
        self.assertEqual(refusal(Busy, joined_turning, SMALL, SMALL_CALLS, 1, [2, 0]).who, 0)

    def test_of_many(self):
        for hall, calls, caller, ends in crowded_asks():
            by_end = {end: call[0] for call in calls for end in call[1]}
            if caller in [call[0] for call in calls]:
                self.assertEqual(refusal(Busy, joined_turning, hall, calls, caller, ends).who, caller)
            elif set(by_end) & set(ends):
                who = by_end[min(set(by_end) & set(ends))]
                self.assertEqual(refusal(Busy, joined_turning, hall, calls, caller, ends).who, who)


class NeverEngaged(unittest.TestCase):  # 4.5
    def row(self, hall, ready, deeds):
        """A row of joinings and ends, as many racks amid open as told; tells the most moves at once."""
        ins, callers, amid, outs, ends = hall
        chance = random.Random(f"turning {hall} {ready}")
        calls, most = [], 0
        for deed in range(deeds):
            caller = chance.randrange(ins * callers)
            if caller in [call[0] for call in calls]:
                if chance.random() < 0.3:
                    calls = ended(calls, caller)
                continue
            taken = {end for call in calls for end in call[1]}
            rack = chance.randrange(outs)
            idle = [end for end in range(rack * ends, rack * ends + ends) if end not in taken]
            if idle:
                asked = chance.sample(idle, 1 if chance.random() < 0.8 else chance.randint(1, len(idle)))
                shut = sum(2 ** k for k in chance.sample(range(amid), amid - ready))
                before = list(calls)
                moves, calls = joined_turning(hall, calls, caller, asked, shut)
                most = max(most, len(moves))
                self.check_deed(hall, before, (caller, asked, shut), moves, calls)
        return most

    def check_deed(self, hall, before, asked, moves, calls):
        caller, ends, shut = asked
        self.assertTrue(is_right_by_hand(hall, calls))
        self.assertEqual(calls, sorted(calls))
        self.assertLessEqual(len(moves), (hall[0] + hall[3] - 2) // 2)
        for mover, k, other in moves:
            self.assertTrue(is_open(shut, k) and is_open(shut, other))
        new = [call for call in calls if call[0] == caller]
        self.assertEqual([call[1] for call in new], [tuple(sorted(ends))])
        self.assertTrue(is_open(shut, new[0][2]))
        self.assertEqual([call for call in calls if call[0] != caller], behind_by_hand(before, moves))

    def test_rows_of_deeds(self):
        most = 0
        for ins, callers, outs, ends in (
            (2, 2, 2, 2), (3, 2, 3, 2), (4, 3, 4, 3), (5, 4, 3, 2), (3, 2, 5, 4), (6, 2, 6, 2), (8, 4, 8, 4),
            (1, 6, 6, 1), (6, 1, 1, 6), (12, 2, 12, 2), (1, 1, 1, 1),
        ):
            for more in (0, 1, 3):
                ready = max(callers, ends)
                most = max(most, self.row((ins, callers, ready + more, outs, ends), ready, 400))
        self.assertGreaterEqual(most, 4)

    def check_all(self, hall, every, shut=0):
        """All idle callers and ends of each of these calls; tells the most moves at once."""
        most = 0
        for calls in every:
            for caller, end in itertools.product(range(hall[0] * hall[1]), range(hall[3] * hall[4])):
                if is_idle(calls, caller, [end]):
                    moves, told = joined_turning(hall, calls, caller, [end], shut)
                    most = max(most, len(moves))
                    self.check_deed(hall, calls, (caller, [end], shut), moves, told)
        return most

    def test_all_narrow_calls_of_small_halls(self):
        for hall, shut, most in ((SMALL, 0, 1), ((2, 2, 3, 2, 2), 0b010, 1), ((2, 1, 2, 3, 2), 0, 0)):
            self.assertEqual(self.check_all(hall, right_lists(hall, 1), shut), most)
        narrow = [calls for calls in right_lists(SMALL, 2) if all(call[1] not in WIDE_ENDS for call in calls)]
        self.assertEqual(self.check_all(SMALL, narrow), 1)

    def test_all_lines_that_narrow_calls_can_hold(self):
        hall = (3, 2, 2, 3, 2)
        every = [pairs for many in range(4) for ins in itertools.combinations(range(3), many)
                 for pairs in (list(zip(ins, outs)) for outs in itertools.permutations(range(3), many))]
        found = []
        for one, other in itertools.product(every, repeat=2):
            # By 0 go the calls of the first seats, by 1 those of the second ones.
            calls = [(2 * i, (2 * j,), 0) for i, j in one] + [(2 * i + 1, (2 * j + 1,), 1) for i, j in other]
            found.append(sorted(calls))
        self.assertEqual(self.check_all(hall, found), 2)

    def test_narrow_calls_however_they_came(self):
        seen = set()
        for hall, calls, caller, ends in crowded_asks():
            self.assertGreaterEqual(hall[2], max(hall[1], hall[4]))
            every = [call[1] for call in calls] + [ends]
            if is_idle(calls, caller, ends) and all(len({end // hall[4] for end in some}) == 1 for some in every):
                moves, told = joined_turning(hall, calls, caller, ends)
                self.check_deed(hall, calls, (caller, ends, 0), moves, told)
                seen.add(min(len(moves), 2))
        self.assertEqual(seen, {0, 1, 2})

    def test_with_one_rack_less_it_comes_to_engaged(self):
        refusal(Engaged, joined_turning, (2, 2, 1, 2, 1), [(0, (0,), 0)], 1, [1])
        refusal(Engaged, joined_turning, (2, 1, 1, 2, 2), [(0, (0,), 0)], 1, [1])
        refusal(Engaged, joined_turning, SMALL, [(0, (0,), 0)], 1, [1], 0b10)


if __name__ == "__main__":
    unittest.main()
