import copy
import unittest

from crossracks.bars import bars_of, read_calls, shown_calls
from crossracks.errors import NoCalls
from samples import many_right_calls


def ends_reached(hall, bars, caller):
    """The ends to which closed bars and lines lead from a caller's place."""
    start = (caller // hall[1], caller % hall[1])
    amid = [(other, rack) for row, rack, one, other in bars if row == 0 and (rack, one) == start]
    outs = [(other, rack) for row, rack, one, other in bars if row == 1 and (rack, one) in amid]
    return sorted(rack * hall[4] + other for row, rack, one, other in bars if row == 2 and (rack, one) in outs)


class Bars(unittest.TestCase):  # 1.6
    hall = (2, 3, 4, 5, 2)

    def test_one_end(self):
        self.assertEqual(bars_of(self.hall, (0, (0,), 0)), [(0, 0, 0, 0), (1, 0, 0, 0), (2, 0, 0, 0)])
        self.assertEqual(bars_of(self.hall, (5, (9,), 3)), [(0, 1, 2, 3), (1, 3, 1, 4), (2, 4, 3, 1)])

    def test_several_ends_in_one_rack(self):
        self.assertEqual(
            bars_of(self.hall, (2, (6, 7), 1)), [(0, 0, 2, 1), (1, 1, 0, 3), (2, 3, 1, 0), (2, 3, 1, 1)])

    def test_several_ends_in_several_racks(self):
        self.assertEqual(
            bars_of(self.hall, (4, (0, 1, 7, 8), 2)),
            [(0, 1, 1, 2), (1, 2, 1, 0), (1, 2, 1, 3), (1, 2, 1, 4),
             (2, 0, 2, 0), (2, 0, 2, 1), (2, 3, 2, 1), (2, 4, 2, 0)])

    def test_sorted_and_new(self):
        for hall, calls in many_right_calls():
            for call in calls:
                bars = bars_of(hall, call)
                self.assertEqual(bars, sorted(bars))
                self.assertEqual({len(bar) for bar in bars}, {4})
                self.assertEqual({isinstance(bar, tuple) for bar in bars}, {True})
                wanted = list(bars)
                bars.clear()
                self.assertEqual(bars_of(hall, call), wanted)

    def test_no_bar_is_closed_by_two(self):
        for hall, calls in many_right_calls():
            bars = [bar for call in calls for bar in bars_of(hall, call)]
            self.assertEqual(len(bars), len(set(bars)), (hall, calls))

    def test_bars_lead_just_to_the_ends_of_the_call(self):
        for hall, calls in many_right_calls():
            bars = [bar for call in calls for bar in bars_of(hall, call)]
            wanted = {caller: list(ends) for caller, ends, k in calls}
            for caller in range(hall[0] * hall[1]):
                self.assertEqual(ends_reached(hall, bars, caller), wanted.get(caller, []), (hall, caller))

    def test_no_more_bars_than_are_told(self):
        for hall, calls in many_right_calls():
            for call in calls:
                racks = {end // hall[4] for end in call[1]}
                self.assertEqual(len(bars_of(hall, call)), 1 + len(racks) + len(call[1]))


class WrittenCalls(unittest.TestCase):  # 1.8
    hall = (2, 3, 4, 5, 2)

    def test_as_the_document_writes_it(self):
        self.assertEqual(shown_calls([(4, (0, 7), 2)]), "4>0,7@2")
        self.assertEqual(read_calls(self.hall, "4>0,7@2"), [(4, (0, 7), 2)])

    def test_no_calls(self):
        self.assertEqual(shown_calls([]), "")
        self.assertEqual(read_calls(self.hall, ""), [])

    def test_several(self):
        calls = [(0, (0, 1), 3), (1, (2, 4, 9), 0), (4, (5, 6), 3), (5, (3,), 1)]
        text = "0>0,1@3; 1>2,4,9@0; 4>5,6@3; 5>3@1"
        self.assertEqual(shown_calls(calls), text)
        self.assertEqual(read_calls(self.hall, text), calls)

    def test_three_figures(self):
        great = (12, 12, 24, 12, 12)
        calls = [(9, (10,), 23), (99, (100,), 10), (143, (9, 99, 143), 0)]
        text = "9>10@23; 99>100@10; 143>9,99,143@0"
        self.assertEqual(shown_calls(calls), text)
        self.assertEqual(read_calls(great, text), calls)

    def test_what_is_written_is_read_again(self):
        for hall, calls in many_right_calls():
            before = copy.deepcopy(calls)
            told = read_calls(hall, shown_calls(calls))
            self.assertEqual(told, calls)
            self.assertEqual(calls, before)
            self.assertIsNot(told, calls)
            self.assertIsInstance(told, list)
            for call in told:
                self.assertIsInstance(call, tuple)
                self.assertIsInstance(call[1], tuple)

    def test_a_new_list_each_time(self):  # 0.2
        read_calls(self.hall, "").append(1)
        self.assertEqual(read_calls(self.hall, ""), [])
        read_calls(self.hall, "4>0,7@2").clear()
        self.assertEqual(read_calls(self.hall, "4>0,7@2"), [(4, (0, 7), 2)])

    def refuse(self, *texts):
        for text in texts:
            with self.subTest(text=text), self.assertRaises(NoCalls):
                read_calls(self.hall, text)

    def test_a_nought_ahead(self):
        self.refuse("04>0,7@2", "4>00,7@2", "4>0,07@2", "4>0,7@02", "00>0@0", "004>0,7@2")

    def test_more_than_three_figures(self):
        self.refuse("0004>0,7@2", "1000>0@2", "4>0007@2", "4>7@0002", "4>7@" + "2" * 3000, "4>7@" + "2" * 9000)

    def test_blanks_too_many_or_too_few(self):
        self.refuse(
            " ", " 4>0,7@2", "4>0,7@2 ", "4 >0,7@2", "4> 0,7@2", "4>0, 7@2", "4>0 ,7@2", "4>0,7 @2", "4>0,7@ 2",
            "0>0@0;3>2@1", "0>0@0;  3>2@1", "0>0@0 ; 3>2@1", "0>0@0 3>2@1", "0>0@0;\t3>2@1", "0>0@0;\n3>2@1",
            "4>0,7@2\n", "\n4>0,7@2", "\n", "  ")

    def test_other_signs(self):
        self.refuse(
            "4<0,7@2", "4>0;7@2", "4>0.7@2", "4>0,7#2", "4-0,7@2", "+4>0,7@2", "-4>0,7@2", "4>-0,7@2", "4>0,7@+2",
            "4>0,7@2.0", "(4>0,7@2)", "4>(0,7)@2", "a>0,7@2", "4>a@2", "4>0@a", "4>0,7@2!", "4>0_7@2", "0>0@0, 3>2@1",
            "\u0664>0,7@2", "4>0,\uff17@2", "4>0,7@\u00b2", "None", "4>None@2", "hall")

    def test_nothing_where_a_number_is_due(self):
        self.refuse(
            ">0,7@2", "4>@2", "4>,7@2", "4>0,@2", "4>0,,7@2", "4>0,7@", ">@", ",", ">", "@", ";", "; ",
            "0>0@0; ", "; 0>0@0", "0>0@0; ; 3>2@1", "0>0@0;")

    def test_too_many_or_too_few_parts(self):
        self.refuse("4", "4>0", "4>0,7", "4@2", "0,7@2", "4>0>7@2", "4>0@7@2", "4@2>0,7", "4,5>0@2", "4>0@2,3",
                    "0>0@03>2@1")

    def test_numbers_beyond_the_bounds(self):
        self.refuse("6>0@0", "999>0@0", "0>10@0", "0>0,10@0", "0>999@0", "0>0@4", "0>0@999")
        self.assertEqual(read_calls(self.hall, "5>9@3"), [(5, (9,), 3)])

    def test_ends_that_do_not_rise(self):
        self.refuse("4>7,0@2", "4>0,0@2", "4>0,7,7@2", "4>0,7,3@2")

    def test_calls_that_are_not_right(self):
        self.refuse(
            "3>2@1; 0>0@0", "0>0@0; 0>2@1", "0>0@0; 3>0@1", "0>0@2; 1>4@2", "0>0@2; 3>1@2", "0>0@0; 3>2@1; 3>4@2",
            "0>0@0; 3>2,1@1", "0>0@0; 6>2@1")


if __name__ == "__main__":
    unittest.main()
