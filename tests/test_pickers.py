import itertools
import random
import unittest

from crossracks.errors import HallError, NoKind
from crossracks.pickers import Picker, RestedPicker, RoundPicker, hunted, picker_of
from samples import STRANGE, Alike, check_list_is_new, deep_list

GROUP = (7, 3, 9, 5)
CLASSES = {"first": Picker, "round": RoundPicker, "rested": RestedPicker}


def order_by_hand(kind, group, taken):
    """The order of a picker that heard of these ends, one by one."""
    if kind == "round" and taken:
        behind = group.index(taken[-1]) + 1
        return [group[(behind + step) % len(group)] for step in range(len(group))]
    if kind == "rested":
        return [end for many in range(len(taken) + 1) for end in group if taken.count(end) == many]
    return list(group)


def picker_behind(kind, group, taken):
    picker = picker_of(kind, group)
    for end in taken:
        picker.took(end)
    return picker


class Orders(unittest.TestCase):  # 7.3
    def test_first(self):
        picker = Picker(GROUP)
        for end in (5, 5, 3, 9, 7, 7):
            self.assertEqual(picker.order(), [7, 3, 9, 5])
            picker.took(end)
        self.assertEqual(picker.order(), [7, 3, 9, 5])

    def test_round(self):
        picker = RoundPicker(GROUP)
        self.assertEqual(picker.order(), [7, 3, 9, 5])
        for end, wanted in ((3, [9, 5, 7, 3]), (9, [5, 7, 3, 9]), (9, [5, 7, 3, 9]), (7, [3, 9, 5, 7]),
                            (5, [7, 3, 9, 5]), (5, [7, 3, 9, 5]), (3, [9, 5, 7, 3])):
            picker.took(end)
            self.assertEqual(picker.order(), wanted)
            self.assertEqual(picker.order(), wanted)

    def test_rested(self):
        picker = RestedPicker(GROUP)
        self.assertEqual(picker.order(), [7, 3, 9, 5])
        for end, wanted in ((3, [7, 9, 5, 3]), (7, [9, 5, 7, 3]), (5, [9, 7, 3, 5]), (5, [9, 7, 3, 5]),
                            (9, [7, 3, 9, 5]), (9, [7, 3, 9, 5]), (9, [7, 3, 5, 9]), (7, [3, 7, 5, 9])):
            picker.took(end)
            self.assertEqual(picker.order(), wanted)
            self.assertEqual(picker.order(), wanted)

    def test_a_group_of_one(self):
        for kind in CLASSES:
            picker = picker_of(kind, (0,))
            for turn in range(3):
                self.assertEqual(picker.order(), [0])
                picker.took(0)

    def test_a_group_of_eight(self):
        group = (59, 0, 8, 30, 2, 1, 41, 7)
        for kind in CLASSES:
            for taken in ([59], [7], [30, 30, 59], list(group), list(group) + [0]):
                self.assertEqual(picker_behind(kind, group, taken).order(), order_by_hand(kind, group, taken))

    def test_all_rows_of_takings(self):
        for kind, group in itertools.product(CLASSES, ((4,), (9, 2), (2, 9, 5))):
            for many in range(6):
                for taken in itertools.product(group, repeat=many):
                    told = picker_behind(kind, group, taken).order()
                    self.assertEqual(told, order_by_hand(kind, group, taken), (kind, taken))

    def test_long_rows_of_takings(self):
        for kind, seed in itertools.product(CLASSES, range(20)):
            chance = random.Random(f"takings {seed}")
            group = tuple(chance.sample(range(60), chance.randint(2, 8)))
            picker = picker_of(kind, group)
            taken = []
            for turn in range(40):
                self.assertEqual(picker.order(), order_by_hand(kind, group, taken))
                taken.append(chance.choice(group))
                self.assertIsNone(picker.took(taken[-1]))

    def test_each_by_itself(self):
        for kind in CLASSES:
            one, other = picker_of(kind, GROUP), picker_of(kind, GROUP)
            one.took(3)
            self.assertEqual(other.order(), [7, 3, 9, 5])
            other.took(9)
            self.assertEqual(one.order(), order_by_hand(kind, GROUP, [3]))
            self.assertEqual(picker_of(kind, GROUP).order(), [7, 3, 9, 5])

    def test_what_is_told_is_new(self):  # 0.2
        for kind in CLASSES:
            for taken in ([], [3], [7, 5, 5]):
                picker = picker_behind(kind, GROUP, taken)
                check_list_is_new(self, picker.order)

    def test_lists_told_stay(self):  # 0.2
        for kind in CLASSES:
            picker = picker_of(kind, GROUP)
            told = picker.order()
            picker.took(7)
            picker.order().reverse()
            self.assertEqual(told, [7, 3, 9, 5])


class Kinds(unittest.TestCase):  # 7.3
    def test_each_kind(self):
        for kind, wanted in CLASSES.items():
            self.assertIs(type(picker_of(kind, GROUP)), wanted)
            self.assertEqual(picker_of(kind, GROUP).order(), [7, 3, 9, 5])

    def test_they_stand_under_picker(self):
        self.assertEqual((RoundPicker.__bases__, RestedPicker.__bases__), ((Picker,), (Picker,)))

    def test_a_new_one_each_time(self):
        for kind in CLASSES:
            self.assertIsNot(picker_of(kind, GROUP), picker_of(kind, GROUP))

    def test_other_texts(self):
        for kind in (
            "", " ", "first ", " first", "First", "ROUND", "round\n", "rest", "resteds", "rested,", "fullest",
            "emptiest", "picker", "None", "0", "f", "\uff46irst", "first\0", "x" * 20000,
        ):
            with self.assertRaises(NoKind):
                picker_of(kind, GROUP)

    def test_things_of_other_kinds(self):
        for kind in STRANGE + [
            Alike(), deep_list(3000), 0, 1, b"first", ["first"], ("first",), {"first": 1}, {"first"}, Picker,
            RoundPicker, Picker(GROUP), picker_of,
        ]:
            with self.assertRaises(NoKind):
                picker_of(kind, GROUP)

    def test_it_is_a_hall_error(self):
        with self.assertRaises(HallError):
            picker_of("told", GROUP)


class Hunts(unittest.TestCase):  # 7.4
    def hunt(self, picker, racks):
        """What the hunt tells where the way to each end leads by the rack of a dict, and the ends that were asked."""
        asked = []

        def way(end):
            asked.append(end)
            return racks.get(end)

        return hunted(picker, way), asked

    def test_it_stops_at_the_first_end_found(self):
        self.assertEqual(self.hunt(Picker(GROUP), {9: 2, 5: 1}), (([7, 3, 9], 9, 2), [7, 3, 9]))
        self.assertEqual(self.hunt(Picker(GROUP), {7: 23, 3: 1}), (([7], 7, 23), [7]))
        self.assertEqual(self.hunt(Picker(GROUP), {5: 3}), (([7, 3, 9, 5], 5, 3), [7, 3, 9, 5]))

    def test_rack_0(self):
        for kind in CLASSES:
            picker = picker_of(kind, GROUP)
            self.assertEqual(self.hunt(picker, {3: 0, 9: 1}), (([7, 3], 3, 0), [7, 3]))
            self.assertEqual(picker.order(), order_by_hand(kind, GROUP, [3]))

    def test_end_0(self):
        self.assertEqual(self.hunt(Picker((4, 0)), {0: 0}), (([4, 0], 0, 0), [4, 0]))
        self.assertEqual(self.hunt(RoundPicker((0, 4)), {0: 0}), (([0], 0, 0), [0]))

    def test_none_found(self):
        for kind in CLASSES:
            for taken in ([], [3], [7, 5, 5]):
                picker = picker_behind(kind, GROUP, taken)
                before = picker.order()
                self.assertEqual(self.hunt(picker, {}), ((before, None, None), before))
                self.assertEqual(picker.order(), before)

    def test_the_picker_hears_of_it(self):
        rounds, rested = RoundPicker(GROUP), RestedPicker(GROUP)
        racks = {7: 0, 3: 1, 9: 2, 5: 3}
        self.assertEqual([self.hunt(rounds, racks)[0][1] for turn in range(6)], [7, 3, 9, 5, 7, 3])
        self.assertEqual([self.hunt(rested, racks)[0][1] for turn in range(6)], [7, 3, 9, 5, 7, 3])
        self.assertEqual(self.hunt(rounds, {3: 1})[0], ([9, 5, 7, 3], 3, 1))
        self.assertEqual(self.hunt(rested, {3: 1})[0], ([9, 5, 7, 3], 3, 1))
        self.assertEqual(rounds.order(), [9, 5, 7, 3])
        self.assertEqual(rested.order(), [9, 5, 7, 3])

    def test_rows_of_hunts(self):
        for kind, seed in itertools.product(CLASSES, range(20)):
            chance = random.Random(f"hunts {seed}")
            group = tuple(chance.sample(range(60), chance.randint(1, 8)))
            picker = picker_of(kind, group)
            taken = []
            for turn in range(30):
                racks = {end: chance.randrange(3) for end in group if chance.random() < 0.3}
                order = order_by_hand(kind, group, taken)
                found = next((end for end in order if end in racks), None)
                looked = order if found is None else order[:order.index(found) + 1]
                self.assertEqual(self.hunt(picker, racks), ((looked, found, racks.get(found)), looked))
                if found is not None:
                    taken.append(found)

    def test_a_picker_of_the_askers_own(self):
        heard = []

        class Backward(Picker):
            def order(self):
                return Picker.order(self)[::-1]

            def took(self, end):
                heard.append(end)

        self.assertEqual(self.hunt(Backward(GROUP), {7: 1, 9: 0})[0], ([5, 9], 9, 0))
        self.assertEqual(self.hunt(Backward(GROUP), {})[0], ([5, 9, 3, 7], None, None))
        self.assertEqual(heard, [9])

    def test_what_is_told_is_new(self):  # 0.2
        for kind in CLASSES:
            picker = picker_of(kind, GROUP)
            (looked, end, k), asked = self.hunt(picker, {})
            looked.clear()
            self.assertEqual(picker.order(), [7, 3, 9, 5])
            (looked, end, k), asked = self.hunt(picker, {3: 0})
            looked.append(99)
            self.assertEqual(picker.order(), order_by_hand(kind, GROUP, [3]))

    def test_a_way_that_fails(self):
        def way(end):
            raise KeyError(end)

        for kind in CLASSES:
            picker = picker_of(kind, GROUP)
            with self.assertRaises(KeyError):
                hunted(picker, way)
            self.assertEqual(picker.order(), [7, 3, 9, 5])


if __name__ == "__main__":
    unittest.main()
