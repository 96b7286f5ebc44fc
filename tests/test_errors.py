import unittest

from crossracks import errors
from crossracks.errors import HallError

# Each refusal with values for its fields.
FIELDS = {
    "NoHall": {}, "NoCalls": {}, "NoLine": {}, "NoRule": {}, "Idle": {},
    "Busy": {"who": 3},
    "Engaged": {"holds": [[0], [1, 2]], "least": [0]},
    "NoMove": {},
    "TooFull": {"side": 1, "rack": 2, "many": 5},
    "NoTable": {"place": 4}, "NoTurns": {"place": 6}, "Wide": {"caller": 7}, "NoBook": {"row": 8},
    "NoFigure": {}, "NoTurn": {}, "NoKind": {}, "NoRank": {},
    "Out": {"was": ("dials", "12")},
    "TooMany": {"most": 2000}, "NoDeed": {"deed": 9},
    "NoRow": {}, "NoName": {}, "NoRack": {},
}


class Refusals(unittest.TestCase):
    def test_hall_error_stands_under_value_error(self):
        self.assertEqual(HallError.__bases__, (ValueError,))

    def test_each_stands_under_hall_error_and_no_other(self):
        for name in FIELDS:
            self.assertEqual(getattr(errors, name).__bases__, (HallError,), name)

    def test_there_are_no_others(self):
        there = {name for name, thing in vars(errors).items() if isinstance(thing, type)}
        self.assertEqual(there, set(FIELDS) | {"HallError"})

    def test_each_has_its_fields(self):
        for name, fields in FIELDS.items():
            error = getattr(errors, name)(**fields)
            self.assertEqual(vars(error), fields, name)

    def test_each_is_taken_as_any_refusal(self):
        for name, fields in FIELDS.items():
            with self.assertRaises(HallError):
                raise getattr(errors, name)(**fields)

    def test_engaged_without_an_open_rack_has_no_least(self):
        self.assertIsNone(errors.Engaged([[0]], None).least)

    def test_engaged_keeps_none_of_the_lists_handed_in(self):
        holds = [[0], [1, 2]]
        least = [0]
        error = errors.Engaged(holds, least)
        holds[1].append(5)
        holds.append([])
        least.clear()
        self.assertEqual((error.holds, error.least), ([[0], [1, 2]], [0]))


if __name__ == "__main__":
    unittest.main()
