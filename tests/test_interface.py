"""The names of the interface, with their arguments as they stand in the document."""

import importlib
import inspect
import unittest

SIGNATURES = {
    "halls": {
        "is_hall": "(thing)", "place_in": "(hall, caller)", "place_out": "(hall, end)",
        "is_call": "(hall, thing)", "racks_of": "(hall, ends)",
        "read_hall": "(text)", "shown_hall": "(hall)",
    },
    "lines": {
        "bits_of": "(places)", "bit_list": "(bits)", "in_bits": "(hall, calls)",
        "out_bits": "(hall, calls)", "is_right": "(hall, calls)",
    },
    "bars": {
        "bars_of": "(hall, call)", "read_calls": "(hall, text)", "shown_calls": "(calls)",
    },
    "ways": {
        "is_caller": "(hall, thing)", "is_ends": "(hall, thing)", "holders": "(hall, calls, caller, ends)",
        "ways": "(hall, calls, caller, ends, shut=0)", "least_ended": "(hall, calls, caller, ends, shut=0)",
    },
    "counts": {
        "loads": "(hall, calls)", "count_of": "(hall, calls, caller, ends, shut=0)",
    },
    "rules": {
        "Rule": "()", "Fullest": "()", "Emptiest": "()", "Round": "(start=0)", "Told": "(listed)",
        "rule_of": "(word)",
    },
    "calling": {
        "call_of": "(calls, caller)", "holder_of": "(calls, end)",
        "joined": "(hall, calls, caller, ends, rule=None, shut=0)", "ended": "(calls, caller)",
    },
    "chains": {
        "chain_out": "(hall, calls, rack, a, b)", "chain_in": "(hall, calls, rack, a, b)",
        "moves_of": "(calls, chain, a, b)", "moved": "(hall, calls, moves)",
    },
    "turning": {
        "room": "(hall, calls, caller, ends, shut=0)", "joined_turning": "(hall, calls, caller, ends, shut=0)",
    },
    "weights": {
        "weight": "(pairs, side, rack)", "greatest_weight": "(pairs)",
    },
    "halves": {
        "halves": "(pairs)",
    },
    "partings": {
        "touching": "(pairs)", "parted": "(pairs, ways)",
    },
    "tables": {
        "pairs_of": "(hall, table)", "open_racks": "(hall, shut=0)", "at_once": "(hall, table, shut=0)",
    },
    "nests": {
        "nest_of": "(lines, small, turns, depth=6)", "amid_nest": "(hall, calls, k, small, depth=6)",
    },
    "paths": {
        "went_to": "(nest, line)", "came_from": "(nest, line)", "turns_of": "(nest)", "closed_bars": "(nest)",
        "crossings": "(lines, small, depth=6)",
    },
    "numbers": {
        "book_of": "(hall, rows)", "Finder": "(book)",
    },
    "pickers": {
        "Picker": "(group)", "RoundPicker": "(group)", "RestedPicker": "(group)", "picker_of": "(kind, group)",
        "hunted": "(picker, way)",
    },
}
# The methods of classes, as they stand behind the object itself.
METHODS = {
    "rules": {
        "Rule": {"choose": "(self, hall, calls, free)"}, "Fullest": {"choose": "(self, hall, calls, free)"},
        "Emptiest": {"choose": "(self, hall, calls, free)"}, "Round": {"choose": "(self, hall, calls, free)"},
        "Told": {"choose": "(self, hall, calls, free)"},
    },
    "numbers": {
        "Finder": {"turn": "(self, figure)", "numbers": "(self)", "group": "(self)"},
    },
    "pickers": {
        "Picker": {"order": "(self)", "took": "(self, end)"},
        "RoundPicker": {"order": "(self)", "took": "(self, end)"},
        "RestedPicker": {"order": "(self)", "took": "(self, end)"},
    },
}


class Interface(unittest.TestCase):
    def test_each_name_has_its_arguments(self):
        for file, names in SIGNATURES.items():
            module = importlib.import_module(f"crossracks.{file}")
            for name, arguments in names.items():
                with self.subTest(file=file, name=name):
                    self.assertEqual(str(inspect.signature(getattr(module, name))), arguments)

    def test_each_method_has_its_arguments(self):
        for file, classes in METHODS.items():
            module = importlib.import_module(f"crossracks.{file}")
            for name, methods in classes.items():
                for method, arguments in methods.items():
                    with self.subTest(file=file, name=name, method=method):
                        found = getattr(getattr(module, name), method)
                        self.assertEqual(str(inspect.signature(found)), arguments)


if __name__ == "__main__":
    unittest.main()
