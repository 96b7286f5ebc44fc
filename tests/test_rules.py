import copy
import itertools
import unittest

from crossracks.errors import NoRule
from crossracks.rules import Emptiest, Fullest, Round, Rule, Told, rule_of
from samples import STRANGE, Alike, many_right_calls

HALL = (4, 2, 5, 4, 3)
# Loads: 2 calls by rack amid 1, 3 by 3, 1 by 4, none by 0 and 2.
CALLS = [(0, (0,), 1), (1, (3,), 3), (2, (1,), 3), (3, (6,), 1), (4, (9,), 3), (6, (4,), 4)]

CLASSES = {"first": Rule, "fullest": Fullest, "emptiest": Emptiest, "round": Round}


def frees_of(amid):
    """Every rising list of racks amid that is not empty."""
    return [list(free) for many in range(1, amid + 1) for free in itertools.combinations(range(amid), many)]


class First(unittest.TestCase):  # 3.1
    def test_the_first(self):
        for free in frees_of(5):
            self.assertEqual(Rule().choose(HALL, CALLS, free), free[0])


class ByLoad(unittest.TestCase):  # 3.1
    def test_one_alone(self):
        for k in range(5):
            self.assertEqual(Fullest().choose(HALL, CALLS, [k]), k)
            self.assertEqual(Emptiest().choose(HALL, CALLS, [k]), k)

    def test_fullest_of_several(self):
        self.assertEqual(Fullest().choose(HALL, CALLS, [0, 1, 2, 3, 4]), 3)
        self.assertEqual(Fullest().choose(HALL, CALLS, [0, 1, 4]), 1)
        self.assertEqual(Fullest().choose(HALL, CALLS, [0, 2, 4]), 4)

    def test_emptiest_of_several(self):
        self.assertEqual(Emptiest().choose(HALL, CALLS, [1, 3]), 1)
        self.assertEqual(Emptiest().choose(HALL, CALLS, [1, 3, 4]), 4)
        self.assertEqual(Emptiest().choose(HALL, CALLS, [1, 2, 3]), 2)

    def test_of_several_alike_the_first(self):
        self.assertEqual(Fullest().choose(HALL, CALLS, [0, 2]), 0)
        self.assertEqual(Emptiest().choose(HALL, CALLS, [0, 1, 2]), 0)
        self.assertEqual(Emptiest().choose(HALL, CALLS, [1, 2, 3]), 2)
        for rule in (Fullest(), Emptiest()):
            for free in frees_of(5):
                self.assertEqual(rule.choose(HALL, [], free), free[0])

    def test_a_call_of_several_ends_counts_once(self):
        calls = [(0, (0, 3, 6, 9), 0), (2, (1,), 1), (4, (4,), 1)]
        self.assertEqual(Fullest().choose(HALL, calls, [0, 1]), 1)
        self.assertEqual(Emptiest().choose(HALL, calls, [0, 1]), 0)

    def test_against_a_count(self):
        for hall, calls in many_right_calls():
            load = [[call[2] for call in calls].count(k) for k in range(hall[2])]
            for free in ([k for k in range(hall[2]) if (k + step) % 3] or [0] for step in range(3)):
                most = [k for k in free if load[k] == max(load[one] for one in free)]
                fewest = [k for k in free if load[k] == min(load[one] for one in free)]
                self.assertEqual(Fullest().choose(hall, calls, free), most[0])
                self.assertEqual(Emptiest().choose(hall, calls, free), fewest[0])


class RoundAndRound(unittest.TestCase):  # 3.1
    def test_start_at_the_beginning(self):
        self.assertEqual(Round().start, 0)
        for start in range(25):
            self.assertEqual(Round(start).start, start)
            self.assertEqual(Round(start=start).start, start)

    def test_from_each_start(self):
        for start, free in itertools.product(range(25), frees_of(5)):
            rule = Round(start)
            wanted = next((k for k in free if k >= start), free[0])
            self.assertEqual(rule.choose(HALL, CALLS, free), wanted, (start, free))
            self.assertEqual(rule.start, wanted + 1)

    def test_no_less_than_the_start(self):
        self.assertEqual(Round(3).choose(HALL, CALLS, [1, 3, 4]), 3)
        self.assertEqual(Round(2).choose(HALL, CALLS, [1, 3, 4]), 3)
        self.assertEqual(Round(4).choose(HALL, CALLS, [1, 3]), 1)

    def test_over_several_choices(self):
        rule = Round()
        told = [rule.choose(HALL, CALLS, [0, 1, 2, 3, 4]) for turn in range(12)]
        self.assertEqual(told, [0, 1, 2, 3, 4, 0, 1, 2, 3, 4, 0, 1])
        rule = Round(3)
        frees = [[0, 2, 4], [0, 2, 4], [0, 2, 4], [1, 2], [2, 3], [0], [0, 1]]
        self.assertEqual([rule.choose(HALL, CALLS, free) for free in frees], [4, 0, 2, 1, 2, 0, 1])
        self.assertEqual(rule.start, 2)

    def test_the_last_rack_of_the_greatest_hall(self):
        rule = Round(23)
        self.assertEqual(rule.choose((12, 12, 24, 12, 12), [], list(range(24))), 23)
        self.assertEqual(rule.start, 24)
        self.assertEqual(rule.choose((12, 12, 24, 12, 12), [], list(range(24))), 0)
        self.assertEqual(rule.start, 1)

    def test_each_keeps_its_own_start(self):
        one, other = Round(), Round()
        one.choose(HALL, CALLS, [2])
        self.assertEqual((one.start, other.start), (3, 0))


class ByList(unittest.TestCase):  # 3.1
    def test_the_first_of_the_list_that_is_free(self):
        rule = Told([3, 0, 4, 1])
        self.assertEqual(rule.choose(HALL, CALLS, [0, 1, 2, 3, 4]), 3)
        self.assertEqual(rule.choose(HALL, CALLS, [0, 1, 2, 4]), 0)
        self.assertEqual(rule.choose(HALL, CALLS, [1, 2, 4]), 4)
        self.assertEqual(rule.choose(HALL, CALLS, [1, 2]), 1)

    def test_where_none_of_the_list_is_free(self):
        self.assertEqual(Told([3, 0]).choose(HALL, CALLS, [1, 2, 4]), 1)
        self.assertEqual(Told([0]).choose(HALL, CALLS, [2]), 2)

    def test_a_list_of_none(self):
        for free in frees_of(5):
            self.assertEqual(Told([]).choose(HALL, CALLS, free), free[0])

    def test_all_lists_of_a_small_hall(self):
        for many in range(5):
            for listed in itertools.permutations(range(4), many):
                rule = Told(list(listed))
                for free in frees_of(4):
                    wanted = next((k for k in listed if k in free), free[0])
                    self.assertEqual(rule.choose(HALL, CALLS, free), wanted, (listed, free))

    def test_the_list_is_not_kept(self):  # 0.2
        listed = [3, 0]
        rule = Told(listed)
        listed.reverse()
        listed.append(2)
        self.assertEqual(rule.choose(HALL, CALLS, [0, 2, 3]), 3)
        listed.clear()
        self.assertEqual(rule.choose(HALL, CALLS, [0, 2, 3]), 3)
        self.assertEqual(rule.choose(HALL, CALLS, [1, 2]), 1)

    def test_the_list_is_not_changed(self):  # 0.2
        listed = [3, 0, 1]
        rule = Told(listed)
        for free in frees_of(5):
            rule.choose(HALL, CALLS, free)
        self.assertEqual(listed, [3, 0, 1])


class Rules(unittest.TestCase):  # 3.1
    def test_each_class_stands_under_rule(self):
        for rule in (Rule(), Fullest(), Emptiest(), Round(), Told([])):
            self.assertIsInstance(rule, Rule)

    def test_what_is_handed_in_stays(self):  # 0.2
        calls = copy.deepcopy(CALLS)
        free = [0, 2, 3, 4]
        for rule in (Rule(), Fullest(), Emptiest(), Round(1), Told([4, 0])):
            rule.choose(HALL, calls, free)
            self.assertEqual((calls, free), (CALLS, [0, 2, 3, 4]))

    def test_only_a_round_minds_what_it_chose(self):
        for rule in (Rule(), Fullest(), Emptiest(), Told([4, 0, 2])):
            told = {rule.choose(HALL, CALLS, [0, 1, 2, 4]) for turn in range(4)}
            self.assertEqual(len(told), 1)


class RuleOf(unittest.TestCase):  # 3.1
    def test_each_word(self):
        for word, kind in CLASSES.items():
            self.assertIs(type(rule_of(word)), kind, word)
        self.assertEqual(rule_of("round").start, 0)

    def test_a_new_object_each_time(self):
        for word in CLASSES:
            self.assertIsNot(rule_of(word), rule_of(word))
        rule_of("round").choose(HALL, CALLS, [3])
        self.assertEqual(rule_of("round").start, 0)

    def test_other_texts(self):
        for word in (
            "", " ", "first ", " first", "First", "FIRST", "fullest\n", "Fullest", "full", "emptiestt", "emptyest",
            "rounds", "roun", "ROUND", "told", "Told", "rule", "Rule", "last", "none", "None", "first,round",
            "first fullest", "0", "1", "f", "\uff46irst", "first\0", "x" * 20000,
        ):
            with self.subTest(word=word[:40]), self.assertRaises(NoRule):
                rule_of(word)

    def test_things_of_other_kinds(self):
        deep = []
        for turn in range(5000):
            deep = [deep]
        for thing in STRANGE + [
            Alike(), 0, 1, -1, 10 ** 3000, b"first", ["first"], ("first",), {"first": 1}, {"first"}, list("first"),
            Rule(), Round(), Rule, Round, Told([]), rule_of, deep,
        ]:
            with self.assertRaises(NoRule):
                rule_of(thing)


if __name__ == "__main__":
    unittest.main()
