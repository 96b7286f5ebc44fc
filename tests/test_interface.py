"""The names of the interface, with their arguments as they stand in the document."""

import importlib
import inspect
import unittest

SIGNATURES = {
    "halls": {
        "is_hall": "(thing)", "place_in": "(hall, caller)", "place_out": "(hall, end)",
        "is_call": "(hall, thing)", "racks_of": "(hall, ends)",
        "read_hall": "(text)", "shown_hall": "(hall)",
    },
    "lines": {
        "bits_of": "(places)", "bit_list": "(bits)", "in_bits": "(hall, calls)",
        "out_bits": "(hall, calls)", "is_right": "(hall, calls)",
    },
    "bars": {
        "bars_of": "(hall, call)", "read_calls": "(hall, text)", "shown_calls": "(calls)",
    },
}


class Interface(unittest.TestCase):
    def test_each_name_has_its_arguments(self):
        for file, names in SIGNATURES.items():
            module = importlib.import_module(f"crossracks.{file}")
            for name, arguments in names.items():
                with self.subTest(file=file, name=name):
                    self.assertEqual(str(inspect.signature(getattr(module, name))), arguments)


if __name__ == "__main__":
    unittest.main()
