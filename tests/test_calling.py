import copy
import itertools
import random
import unittest

from crossracks.calling import call_of, ended, holder_of, joined
from crossracks.errors import Busy, Engaged, Idle, NoLine
from crossracks.rules import Emptiest, Fullest, Round, Rule, Told, rule_of
from samples import (
    HALLS, STRANGE, Alike, held_lines_of, is_idle, lines_of, many_asks, many_right_calls, right_lists, shuts_of,
    ways_by_hand)

HALL = (2, 3, 4, 5, 2)
CALLS = [(0, (0, 1), 3), (1, (2, 4, 9), 0), (4, (5, 6), 3), (5, (3,), 1)]
# One in rack whose callers 0 to 2 hold a line to each rack amid.
FULL_HALL = (2, 4, 3, 3, 3)
FULL_CALLS = [(0, (0,), 2), (1, (3,), 0), (2, (6,), 1), (5, (1, 4), 1)]


class Recorder(Rule):
    """A rule that keeps what it was asked and chooses the last."""

    def __init__(self):
        self.asked = []

    def choose(self, hall, calls, free):
        self.asked.append((hall, list(calls), list(free)))
        return free[-1]


class Untouchable(Rule):
    """A rule that must not be asked."""

    def choose(self, hall, calls, free):
        raise AssertionError("the rule was asked")


def refusal(kind, *things, **others):
    """The refusal of a joining, of which nothing handed in is changed and no rule is asked."""
    before = copy.deepcopy((things[1], things[3]))
    try:
        joined(*things, rule=Untouchable(), **others)
    except kind as error:
        assert type(error) is kind and before == (things[1], things[3])
        return error
    raise AssertionError(f"not refused with {kind.__name__}: {things}")


class CallOf(unittest.TestCase):  # 3.3
    def test_call_of(self):
        for call in CALLS:
            self.assertEqual(call_of(CALLS, call[0]), call)
        for caller in (2, 3, 6, -1, 999):
            self.assertIsNone(call_of(CALLS, caller))
        self.assertIsNone(call_of([], 0))

    def test_holder_of(self):
        wanted = {0: 0, 1: 0, 2: 1, 4: 1, 9: 1, 5: 4, 6: 4, 3: 5}
        for end in range(-2, 14):
            self.assertEqual(holder_of(CALLS, end), wanted.get(end))
        self.assertIsNone(holder_of([], 0))

    def test_truths_are_neither(self):
        for thing in (True, False, 0.0, 1.0):
            self.assertIsNone(call_of(CALLS, thing))
            self.assertIsNone(holder_of(CALLS, thing))

    def test_of_many_calls(self):
        for hall, calls in many_right_calls():
            before = copy.deepcopy(calls)
            by_caller = {call[0]: call for call in calls}
            by_end = {end: call[0] for call in calls for end in call[1]}
            for caller in range(hall[0] * hall[1]):
                self.assertEqual(call_of(calls, caller), by_caller.get(caller))
            for end in range(hall[3] * hall[4]):
                self.assertEqual(holder_of(calls, end), by_end.get(end))
            self.assertEqual(calls, before)


class Joined(unittest.TestCase):  # 3.2
    def test_without_other_calls(self):
        self.assertEqual(joined(HALL, [], 3, [7]), [(3, (7,), 0)])
        self.assertEqual(joined(HALL, [], 0, (9,), shut=0b0111), [(0, (9,), 3)])
        self.assertEqual(joined((1, 1, 1, 1, 1), [], 0, [0]), [(0, (0,), 0)])

    def test_among_the_others(self):
        self.assertEqual(joined(HALL, CALLS, 2, [7]), CALLS[:2] + [(2, (7,), 1)] + CALLS[2:])
        self.assertEqual(joined(HALL, CALLS, 3, [8]), CALLS[:2] + [(3, (8,), 2)] + CALLS[2:])
        self.assertEqual(joined(HALL, CALLS[1:], 0, [0]), [(0, (0,), 1)] + CALLS[1:])
        self.assertEqual(joined(HALL, CALLS[:3], 5, [3]), CALLS[:3] + [(5, (3,), 1)])

    def test_ends_rise(self):
        for ends in itertools.permutations((8, 0, 7, 3)):
            wanted = [(1, (2,), 0), (3, (0, 3, 7, 8), 1)]
            self.assertEqual(joined(HALL, [(1, (2,), 0)], 3, list(ends)), wanted)
            told = joined(HALL, [(1, (2,), 0)], 3, ends)
            self.assertEqual(told, wanted)
            self.assertIsInstance(told[1], tuple)
            self.assertIsInstance(told[1][1], tuple)

    def test_the_rule_is_asked_once_of_all_ways(self):
        rule = Recorder()
        self.assertEqual(joined(HALL, CALLS, 2, [7], rule), CALLS[:2] + [(2, (7,), 2)] + CALLS[2:])
        self.assertEqual(rule.asked, [(HALL, CALLS, [1, 2])])
        self.assertEqual(joined(HALL, CALLS, 2, [7], rule, 0b0100), CALLS[:2] + [(2, (7,), 1)] + CALLS[2:])
        self.assertEqual(rule.asked[1:], [(HALL, CALLS, [1])])

    def test_each_rule(self):
        hall = (3, 2, 4, 3, 2)
        calls = [(0, (0,), 1), (2, (1,), 2), (5, (3,), 2)]
        for rule, wanted in (
            (None, 0), (Rule(), 0), (Fullest(), 2), (Emptiest(), 0), (Round(1), 2), (Round(3), 3), (Round(4), 0),
            (Told([1, 3]), 3), (Told([1]), 0), (Told([]), 0),
        ):
            told = joined(hall, calls, 1, [5], rule)
            self.assertEqual(told, [calls[0], (1, (5,), wanted)] + calls[1:], rule)

    def test_without_a_rule_the_first_way(self):
        for hall, calls, caller, ends in many_asks():
            for shut in shuts_of(hall):
                free = ways_by_hand(hall, calls, caller, ends, shut)
                if is_idle(calls, caller, ends) and free:
                    before = copy.deepcopy((calls, ends))
                    told = joined(hall, calls, caller, ends, shut=shut)
                    self.assertEqual(told, sorted(calls + [(caller, tuple(sorted(ends)), free[0])]))
                    self.assertEqual(told, joined(hall, calls, caller, tuple(ends), None, shut))
                    self.assertEqual((calls, ends), before)

    def test_what_is_told_is_new(self):  # 0.2
        for calls in ([], CALLS):
            before = copy.deepcopy(calls)
            joined(HALL, calls, 3, [8]).clear()
            self.assertEqual(calls, before)
            self.assertEqual(joined(HALL, calls, 3, [8]), sorted(before + [(3, (8,), 2 if calls else 0)]))

    def test_rows_of_deeds(self):  # 0.4
        for hall, word in itertools.product(HALLS, ("first", "fullest", "emptiest", "round")):
            chance = random.Random(f"{hall} {word}")
            rule, calls = rule_of(word), []
            for deed in range(60):
                caller = chance.randrange(hall[0] * hall[1])
                if call_of(calls, caller) is not None and chance.random() < 0.6:
                    calls = ended(calls, caller)
                else:
                    idle = [end for end in range(hall[3] * hall[4]) if holder_of(calls, end) is None]
                    ends = chance.sample(idle, min(len(idle), chance.randint(1, 3)))
                    try:
                        calls = joined(hall, calls, caller, ends, rule, chance.randrange(2 ** hall[2]))
                    except (NoLine, Busy, Engaged):
                        pass
                held = held_lines_of(hall, calls)
                taken = [end for call in calls for end in call[1]]
                self.assertEqual(len(held), len(set(held)))
                self.assertEqual(len(taken), len(set(taken)))
                self.assertEqual(calls, sorted(calls))


class RefusedLines(unittest.TestCase):  # 3.2
    def test_no_caller(self):
        for caller in STRANGE + [Alike(), -1, 6, 999, 10 ** 3000, [3], (3,), "3"]:
            with self.subTest(caller=repr(caller)[:40]):
                refusal(NoLine, HALL, CALLS, caller, [7])

    def test_no_ends(self):
        for ends in STRANGE + [0, 7, [], (), [7, 7], (7, 8, 7), [10], [-1], [7, 10], [7, None], [True], [7, False],
                               [7.0], ["7"], [[7]], ([7],), {7}, {7: 7}, range(7, 9), "7", b"7"]:
            if not (isinstance(ends, (list, tuple)) and list(ends) == [1]):
                with self.subTest(ends=ends), self.assertRaises(NoLine):
                    joined(HALL, CALLS, 3, ends, Untouchable())

    def test_things_that_claim_to_be_like_ends(self):
        for ends in (Alike(), [Alike()], (7, Alike())):
            with self.assertRaises(NoLine):
                joined(HALL, CALLS, 3, ends, Untouchable())

    def test_the_last_caller_and_end_are_lines(self):
        self.assertEqual(joined(HALL, [], 5, [9]), [(5, (9,), 0)])
        self.assertEqual(joined(HALL, [], 0, [0]), [(0, (0,), 0)])

    def test_ahead_of_busy(self):
        refusal(NoLine, HALL, CALLS, 0, [10])
        refusal(NoLine, HALL, CALLS, 0, [])
        refusal(NoLine, HALL, CALLS, 3, [0, 0])
        refusal(NoLine, HALL, CALLS, 6, [0])
        refusal(NoLine, HALL, CALLS, True, [0])

    def test_ahead_of_engaged(self):
        refusal(NoLine, HALL, CALLS, 6, [7], shut=0b1111)
        refusal(NoLine, HALL, CALLS, 3, [7, 7], shut=0b1111)


class RefusedBusy(unittest.TestCase):  # 3.2
    def test_the_caller(self):
        for caller in (0, 1, 4, 5):
            self.assertEqual(refusal(Busy, HALL, CALLS, caller, [7]).who, caller)

    def test_the_caller_ahead_of_the_ends(self):
        self.assertEqual(refusal(Busy, HALL, CALLS, 5, [0]).who, 5)
        self.assertEqual(refusal(Busy, HALL, CALLS, 1, [8, 3, 0]).who, 1)
        self.assertEqual(refusal(Busy, HALL, CALLS, 4, [5]).who, 4)

    def test_the_least_of_the_ends_that_calls_have(self):
        for ends, who in (
            ([0], 0), ([9], 1), ([6], 4), ([3], 5), ([9, 3], 5), ([3, 9], 5), ([5, 4], 1), ([9, 5], 4),
            ((8, 7, 9), 1), ([7, 6, 9], 4), ([3, 2], 1), ([8, 6, 3], 5),
        ):
            self.assertEqual(refusal(Busy, HALL, CALLS, 3, ends).who, who, ends)

    def test_ahead_of_engaged(self):
        self.assertEqual(refusal(Busy, HALL, CALLS, 0, [7], shut=0b1111).who, 0)
        self.assertEqual(refusal(Busy, HALL, CALLS, 3, [9, 8], shut=0b1111).who, 1)
        self.assertEqual(refusal(Busy, FULL_HALL, FULL_CALLS, 3, [4, 8]).who, 5)

    def test_of_many(self):
        for hall, calls, caller, ends in many_asks():
            by_end = {end: call[0] for call in calls for end in call[1]}
            if caller in [call[0] for call in calls]:
                self.assertEqual(refusal(Busy, hall, calls, caller, ends).who, caller)
            elif set(by_end) & set(ends):
                self.assertEqual(
                    refusal(Busy, hall, calls, caller, ends).who, by_end[min(set(by_end) & set(ends))])


class RefusedEngaged(unittest.TestCase):  # 3.2
    def test_holds_and_least(self):
        error = refusal(Engaged, FULL_HALL, FULL_CALLS, 3, [5])
        self.assertEqual((error.holds, error.least), ([[1], [2, 5], [0]], [1]))
        error = refusal(Engaged, FULL_HALL, FULL_CALLS, 3, [2, 7])
        self.assertEqual((error.holds, error.least), ([[1], [2, 5], [0]], [1]))

    def test_holds_of_shut_racks_too(self):
        error = refusal(Engaged, FULL_HALL, FULL_CALLS, 3, [5], shut=0b001)
        self.assertEqual((error.holds, error.least), ([[1], [2, 5], [0]], [0]))
        error = refusal(Engaged, FULL_HALL, FULL_CALLS, 3, [5], shut=0b101)
        self.assertEqual((error.holds, error.least), ([[1], [2, 5], [0]], [2, 5]))
        error = refusal(Engaged, HALL, CALLS, 2, [7], shut=0b0110)
        self.assertEqual((error.holds, error.least), ([[1], [], [], [0, 4]], [1]))

    def test_all_shut(self):
        error = refusal(Engaged, FULL_HALL, FULL_CALLS, 3, [5], shut=0b111)
        self.assertEqual((error.holds, error.least), ([[1], [2, 5], [0]], None))
        error = refusal(Engaged, HALL, [], 3, [7], shut=0b1111)
        self.assertEqual((error.holds, error.least), ([[], [], [], []], None))

    def test_just_where_there_is_no_way(self):
        seen = 0
        for hall, calls, caller, ends in many_asks():
            if not is_idle(calls, caller, ends):
                continue
            for shut in shuts_of(hall):
                if ways_by_hand(hall, calls, caller, ends, shut):
                    continue
                seen += 1
                error = refusal(Engaged, hall, calls, caller, ends, shut=shut)
                holds = [[call[0] for call in calls if lines_of(hall, *call) & lines_of(hall, caller, ends, k)]
                         for k in range(hall[2])]
                left = [holds[k] for k in range(hall[2]) if shut // 2 ** k % 2 == 0]
                self.assertEqual(error.holds, holds)
                self.assertEqual(error.least, min(left, key=len, default=None))
        self.assertGreater(seen, 50)

    def test_the_lists_are_the_askers_own(self):  # 0.2
        wanted = ([[1], [2, 5], [0]], [1])
        error = refusal(Engaged, FULL_HALL, FULL_CALLS, 3, [5])
        error.least.append(99)
        self.assertEqual(error.holds, wanted[0])
        error.holds[1].clear()
        error.holds.append(7)
        again = refusal(Engaged, FULL_HALL, FULL_CALLS, 3, [5])
        self.assertEqual((again.holds, again.least), wanted)
        self.assertEqual(error.least, [1, 99])


class RoundKeepsItsStart(unittest.TestCase):  # 3.2
    def test_over_what_is_refused(self):
        rule = Round(2)
        for kind, hall, calls, caller, ends, shut in (
            (NoLine, HALL, CALLS, 6, [7], 0), (NoLine, HALL, CALLS, 3, [7, 7], 0),
            (Busy, HALL, CALLS, 0, [7], 0), (Busy, HALL, CALLS, 3, [9], 0),
            (Engaged, HALL, CALLS, 2, [7], 0b0110), (Engaged, FULL_HALL, FULL_CALLS, 3, [5], 0),
        ):
            with self.assertRaises(kind):
                joined(hall, calls, caller, ends, rule, shut)
            self.assertEqual(rule.start, 2)

    def test_over_what_is_joined_it_goes_on(self):
        rule = Round()
        calls = joined(HALL, [], 0, [0], rule)
        calls = joined(HALL, calls, 3, [2], rule)
        self.assertEqual((calls, rule.start), ([(0, (0,), 0), (3, (2,), 1)], 2))
        calls = joined(HALL, calls, 1, [4], rule, 0b1100)
        self.assertEqual((calls, rule.start), ([(0, (0,), 0), (1, (4,), 1), (3, (2,), 1)], 2))
        calls = joined(HALL, calls, 4, [6], rule)
        self.assertEqual((calls[3:], rule.start), ([(4, (6,), 2)], 3))
        calls = joined(HALL, calls, 5, [8], rule)
        self.assertEqual((calls[4:], rule.start), ([(5, (8,), 3)], 4))
        self.assertEqual(joined(HALL, calls, 2, [9], rule)[2], (2, (9,), 2))
        self.assertEqual(rule.start, 3)


class Ended(unittest.TestCase):  # 3.3
    def test_first_last_and_between(self):
        for place, call in enumerate(CALLS):
            self.assertEqual(ended(CALLS, call[0]), CALLS[:place] + CALLS[place + 1:])

    def test_the_only_one(self):
        self.assertEqual(ended([(3, (0,), 0)], 3), [])

    def test_idle_callers(self):
        for caller in (2, 3, 6, -1, 999, 10 ** 3000):
            with self.subTest(caller=caller), self.assertRaises(Idle):
                ended(CALLS, caller)
        with self.assertRaises(Idle):
            ended([], 0)

    def test_whatever_else(self):
        for thing in STRANGE + [Alike(), 0.0, 4.0, "0", [0], (0,), CALLS[0], [CALLS[0]], CALLS]:
            with self.subTest(thing=repr(thing)[:40]), self.assertRaises(Idle):
                ended(CALLS, thing)

    def test_what_is_told_is_new(self):  # 0.2
        before = copy.deepcopy(CALLS)
        ended(CALLS, 4).clear()
        self.assertEqual(CALLS, before)
        self.assertEqual(ended(CALLS, 4), CALLS[:2] + CALLS[3:])
        with self.assertRaises(Idle):
            ended(CALLS, 3)
        self.assertEqual(CALLS, before)

    def test_an_end_undoes_a_joining(self):
        for hall, calls, caller, ends in many_asks():
            if is_idle(calls, caller, ends) and ways_by_hand(hall, calls, caller, ends):
                self.assertEqual(ended(joined(hall, calls, caller, ends), caller), calls)


class NeverEngaged(unittest.TestCase):  # 3.4
    def rules_of(self, hall, chance):
        told = chance.sample(range(hall[2]), chance.randint(0, hall[2]))
        return [None, Rule(), Fullest(), Emptiest(), Round(), Round(chance.randrange(25)), Told(told), Recorder()]

    def walk(self, hall, most_racks, rule, chance, shut):
        """A long row of calls and ends, each of idle callers and of ends in so many racks at most."""
        ins, callers, amid, outs, ends = hall
        calls, joins = [], 0
        for deed in range(120):
            caller = chance.randrange(ins * callers)
            if call_of(calls, caller) is not None:
                calls = ended(calls, caller)
                continue
            racks = chance.sample(range(outs), chance.randint(1, most_racks))
            idle = [end for end in range(outs * ends) if end // ends in racks and holder_of(calls, end) is None]
            if idle:
                joins += 1
                calls = joined(hall, calls, caller, chance.sample(idle, chance.randint(1, len(idle))), rule, shut)
        self.assertGreater(joins, 10)

    def test_rows_of_deeds_by_any_rule(self):
        for ins, callers, outs, ends, racks in (
            (3, 2, 3, 2, 1), (4, 3, 3, 3, 1), (2, 4, 4, 1, 4), (5, 1, 2, 4, 2), (3, 3, 3, 2, 2), (4, 2, 4, 3, 3)
        ):
            least = callers + racks * (ends - 1)
            for more in (0, 2):
                hall = (ins, callers, least + more, outs, ends)
                chance = random.Random(f"never {hall}")
                for rule in self.rules_of(hall, chance):
                    shut = sum(2 ** k for k in chance.sample(range(hall[2]), more))
                    self.walk(hall, racks, rule, chance, shut)

    def check_all(self, hall, most_ends, shut):
        """Of all right calls of the hall, however they came: joined where 3.4 tells it; tells how often it does not."""
        engaged = 0
        left = bin(2 ** hall[2] - 1 - shut).count("1")
        places = range(hall[3] * hall[4])
        asks = [ends for many in range(1, most_ends + 1) for ends in itertools.combinations(places, many)]
        for calls in right_lists(hall, most_ends):
            for caller, ends in itertools.product(range(hall[0] * hall[1]), asks):
                if is_idle(calls, caller, ends):
                    racks = len({end // hall[4] for end in ends})
                    try:
                        joined(hall, calls, caller, ends, None, shut)
                    except Engaged:
                        engaged += 1
                        self.assertLess(left, hall[1] + racks * (hall[4] - 1), (hall, calls, caller, ends))
        return engaged

    def test_all_right_calls_of_small_halls(self):
        self.assertEqual(self.check_all((2, 1, 3, 2, 2), 2, 0), 0)
        self.assertEqual(self.check_all((2, 2, 2, 2, 1), 2, 0), 0)
        self.assertEqual(self.check_all((2, 1, 3, 2, 2), 1, 0b010), 0)

    def test_with_one_rack_less_it_comes_to_engaged(self):
        self.assertGreater(self.check_all((2, 2, 2, 2, 2), 1, 0), 0)
        self.assertGreater(self.check_all((2, 2, 3, 2, 2), 1, 0b100), 0)


if __name__ == "__main__":
    unittest.main()
