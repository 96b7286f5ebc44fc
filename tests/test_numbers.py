import itertools
import random
import unittest

from crossracks.errors import HallError, NoBook, NoFigure, NoTurn
from crossracks.numbers import Finder, book_of
from samples import STRANGE, Alike, check_list_is_new, deep_list

# Sixty ends, numbered from 0 to 59.
HALL = (2, 3, 4, 12, 5)
BOOK = [("12", (0, 1)), ("0", (59,)), ("130", (7, 3, 5)), ("131", (2,)), ("20000000", (8, 9, 10, 11, 12, 13, 14, 15))]
FORTY = [(f"{place:02}", (place,)) for place in range(40)]


def strangers_but(*some):
    """The strange things without some that would be right here."""
    return [thing for thing in STRANGE if not isinstance(thing, (str, tuple)) or thing not in some]


WRONG_NUMBERS = strangers_but("1", "11111") + [
    Alike(), deep_list(3000), 1, 12, 0, " ", "a", "12a", "a12", "1 2", " 12", "12 ", "12\n", "-1", "+1", "1.0", "1_2",
    "123456789", "0" * 9, "9" * 20000, "\u0661", "1\u0662", "\u00b2", "\uff11", "\0", "1\0", "#", "*", b"12",
    ("1", "2"), ["12"],
]
WRONG_GROUPS = strangers_but((1,)) + [
    Alike(), deep_list(3000), 3, [3], [3, 4], "3", {3}, {3: 3}, (60,), (-1,), (3, 60), (3, -1), (3, 3), (3, 4, 3),
    (True,), (False,), (3, True), (3, None), (None, 3), ("3",), (3.0,), (3, 4.0), ((3,),), ((3, 4),), ([3],), (3, []),
    (3, {}), (Alike(),), (3, Alike()), (deep_list(3000),), (float("nan"),), (10 ** 3000,), (-10 ** 3000,),
    tuple(range(20, 29)), tuple(range(60)), (20, 21, 22, 23, 24, 25, 26, 20), range(20, 22),
]
WRONG_FIGURES = strangers_but("1") + [
    Alike(), deep_list(3000), 0, 1, 9, -1, " ", "00", "12", "0 ", " 0", "a", "A", "-", "+", ".", "/", ":", "\n", "0\n",
    "\0", "\u0661", "\u00b2", "\uff11", "\u2460", "0123456789", "9" * 20000, b"1", ["1"], ("1",), {"1": 1}, {"1"},
]


def is_number_by_hand(thing):
    return type(thing) is str and len(thing) in range(1, 9) and set(thing) <= set("0123456789")


def is_book_by_hand(hall, rows):
    """Whether rows of plain kinds are a book."""
    groups = [group for number, group in rows]
    ends = [end for group in groups for end in group]
    if not 1 <= len(rows) <= 40 or any(len(group) not in range(1, 9) for group in groups):
        return False
    if len(ends) != len(set(ends)) or not set(ends) <= set(range(hall[3] * hall[4])):
        return False
    if not all(is_number_by_hand(number) for number, group in rows):
        return False
    return not any(one[0][:len(other[0])] == other[0] for one, other in itertools.permutations(rows, 2))


def row_by_hand(hall, rows):
    """The place of the first row with which the rows up to it are no book, or None."""
    for place in range(len(rows)):
        if not is_book_by_hand(hall, rows[:place + 1]):
            return place
    return None if rows else 0


class Books(unittest.TestCase):  # 7.1
    def test_of_one_row(self):
        for row in (("0", (0,)), ("9", (59,)), ("12345678", (5, 3)), ("00000000", tuple(range(8)))):
            self.assertEqual(book_of(HALL, [row]), [row])

    def test_of_several_rows(self):
        self.assertEqual(book_of(HALL, BOOK), BOOK)
        self.assertEqual(book_of(HALL, BOOK[::-1]), BOOK[::-1])

    def test_of_forty_rows(self):
        self.assertEqual(book_of(HALL, FORTY), FORTY)
        self.assertEqual(book_of(HALL, FORTY[::-1]), FORTY[::-1])

    def test_a_number_may_stand_within_another(self):
        rows = [("12", (0,)), ("3123", (1,)), ("012", (2,)), ("2", (3,)), ("1112", (4,))]
        self.assertEqual(book_of(HALL, rows), rows)

    def test_a_group_in_any_order(self):
        for group in itertools.permutations((0, 7, 30, 59)):
            self.assertEqual(book_of(HALL, [("5", group)]), [("5", group)])

    def test_what_is_told_is_new(self):  # 0.2
        for rows in (BOOK[:1], BOOK, FORTY):
            check_list_is_new(self, book_of, HALL, rows)


class RefusedNoBook(unittest.TestCase):  # 7.1
    def refuse(self, rows, hall=HALL):
        before = list(rows)
        with self.assertRaises(NoBook) as taken:
            book_of(hall, rows)
        self.assertEqual(len(rows), len(before))
        self.assertTrue(all(one is other for one, other in zip(rows, before)))
        self.assertIs(type(taken.exception.row), int)
        return taken.exception.row

    def at_every_place(self, row):
        self.assertEqual(self.refuse([row]), 0)
        for place in range(len(BOOK) + 1):
            self.assertEqual(self.refuse(BOOK[:place] + [row] + BOOK[place:]), place)

    def test_no_rows(self):
        self.assertEqual(self.refuse([]), 0)

    def test_rows_of_other_kinds(self):
        for row in STRANGE + [
            Alike(), deep_list(3000), 5, ["5", (20,)], ("5",), ("5", (20,), 1), ("5", (20,), ()), ((20,), "5"), "5,",
            {"5": (20,)}, ("5", 20), (("5", (20,)),), [("5", (20,))],
        ]:
            self.at_every_place(row)

    def test_wrong_numbers(self):
        for number in WRONG_NUMBERS:
            self.at_every_place((number, (20,)))

    def test_wrong_groups(self):
        for group in WRONG_GROUPS:
            self.at_every_place(("5", group))

    def test_a_group_of_none_and_of_nine(self):
        self.assertEqual(self.refuse([("5", ())]), 0)
        self.assertEqual(book_of(HALL, [("5", tuple(range(8)))]), [("5", tuple(range(8)))])
        self.assertEqual(self.refuse([("5", tuple(range(9)))]), 0)
        self.assertEqual(self.refuse(BOOK + [("5", tuple(range(20, 29)))]), 5)

    def test_an_end_twice_in_a_group(self):
        self.assertEqual(self.refuse([("5", (1, 1))]), 0)
        self.assertEqual(self.refuse([("4", (2,)), ("5", (1, 0, 1))]), 1)

    def test_an_end_in_two_rows(self):
        self.assertEqual(self.refuse([("4", (2, 6)), ("5", (1,)), ("6", (6,))]), 2)
        self.assertEqual(self.refuse([("4", (6,)), ("5", (1, 6)), ("6", (6,))]), 1)
        self.assertEqual(self.refuse(BOOK + [("5", (20, 21, 15))]), 5)

    def test_ends_of_another_hall(self):
        self.assertEqual(self.refuse([("5", (0,)), ("6", (1,))], (9, 9, 1, 1, 1)), 1)
        self.assertEqual(book_of((1, 1, 1, 1, 1), [("5", (0,))]), [("5", (0,))])

    def test_a_number_that_begins_another(self):
        self.assertEqual(self.refuse([("5", (0,)), ("56", (1,))]), 1)
        self.assertEqual(self.refuse([("56", (0,)), ("5", (1,))]), 1)
        self.assertEqual(self.refuse([("1", (0,)), ("22222222", (1,)), ("3", (2,)), ("2", (3,))]), 3)
        self.assertEqual(self.refuse([("1", (0,)), ("2", (1,)), ("3", (2,)), ("22222222", (3,))]), 3)

    def test_alike_numbers(self):
        self.assertEqual(self.refuse([("5", (0,)), ("5", (1,))]), 1)
        self.assertEqual(self.refuse([("0", (0,)), ("5", (1,)), ("0", (2,))]), 2)
        # Numbers are texts: these two are unlike.
        self.assertEqual(len(book_of(HALL, [("05", (0,)), ("5", (1,))])), 2)

    def test_the_forty_first_row(self):
        self.assertEqual(self.refuse(FORTY + [("40", (40,))]), 40)
        self.assertEqual(self.refuse(FORTY + [("40", (40,)), ("41", (41,))]), 40)
        self.assertEqual(self.refuse(FORTY + [None]), 40)
        self.assertEqual(self.refuse(FORTY[:39] + [None, ("40", (40,))]), 39)
        self.assertEqual(self.refuse([("00", (0,)), ("00", (1,))] + FORTY[2:] + [("40", (40,))]), 1)

    def test_the_first_of_several(self):
        self.assertEqual(self.refuse([("4", (0,)), None, ("4", (0,)), Alike()]), 1)
        self.assertEqual(self.refuse([("4", (0,)), ("4", (1,)), None]), 1)

    def test_by_chance(self):
        seen = set()
        for seed in range(1500):
            chance = random.Random(f"books {seed}")
            rows = [("".join(chance.choices("012", k=chance.randint(1, chance.choice((3, 5, 9))))),
                     tuple(chance.choices(range(61), k=chance.choice((1, 1, 2, 3)))))
                    for turn in range(chance.randint(1, 7))]
            wanted = row_by_hand(HALL, rows)
            seen.add(wanted)
            if wanted is None:
                self.assertEqual(book_of(HALL, rows), rows)
            else:
                self.assertEqual(self.refuse(rows), wanted)
        self.assertLessEqual({None, 0, 1, 2, 3}, seen)

    def test_it_is_a_hall_error(self):
        with self.assertRaises(HallError):
            book_of(HALL, [])


class Finders(unittest.TestCase):  # 7.2
    def turned(self, figures, book=BOOK):
        finder = Finder(book)
        return finder, [finder.turn(figure) for figure in figures]

    def check_stays(self, finder):
        """What is refused changes nothing, and a list that was told is the asker's own."""
        numbers, group = finder.numbers(), finder.group()
        for figure in WRONG_FIGURES:
            with self.assertRaises(NoFigure):
                finder.turn(figure)
            self.assertEqual((finder.numbers(), finder.group()), (numbers, group))
        finder.numbers().clear()
        finder.numbers().append("7")
        self.assertEqual(finder.numbers(), numbers)

    def check_done(self, finder):
        numbers, group = finder.numbers(), finder.group()
        for figure in "0123456789":
            with self.assertRaises(NoTurn):
                finder.turn(figure)
            self.assertEqual((finder.numbers(), finder.group()), (numbers, group))

    def test_at_the_beginning(self):
        finder = Finder(BOOK)
        self.assertEqual(finder.numbers(), ["12", "0", "130", "131", "20000000"])
        self.assertIsNone(finder.group())
        self.check_stays(finder)

    def test_on_and_there(self):
        finder, told = self.turned("1")
        self.assertEqual((told, finder.numbers(), finder.group()), (["on"], ["12", "130", "131"], None))
        self.check_stays(finder)
        self.assertEqual(finder.turn("3"), "on")
        self.assertEqual((finder.numbers(), finder.group()), (["130", "131"], None))
        self.assertEqual(finder.turn("0"), "there")
        self.assertEqual((finder.numbers(), finder.group()), (["130"], (7, 3, 5)))

    def test_there_by_one_figure(self):
        finder, told = self.turned("0")
        self.assertEqual((told, finder.numbers(), finder.group()), (["there"], ["0"], (59,)))

    def test_the_last_one_left_is_not_there_yet(self):
        finder, told = self.turned("2")
        self.assertEqual((told, finder.numbers(), finder.group()), (["on"], ["20000000"], None))

    def test_eight_figures(self):
        finder, told = self.turned("20000000")
        self.assertEqual(told, ["on"] * 7 + ["there"])
        self.assertEqual(finder.group(), (8, 9, 10, 11, 12, 13, 14, 15))

    def test_nowhere(self):
        for figures in ("9", "11", "132", "20000001"):
            finder, told = self.turned(figures)
            self.assertEqual(told, ["on"] * (len(figures) - 1) + ["nowhere"])
            self.assertEqual((finder.numbers(), finder.group()), ([], None))
            self.check_stays(finder)
            self.check_done(finder)

    def test_no_turn_where_it_is_there(self):
        for figures in ("0", "12", "131", "20000000"):
            finder, told = self.turned(figures)
            self.assertEqual(told[-1], "there")
            self.check_done(finder)
            self.check_stays(finder)

    def test_no_figure_ahead_of_no_turn(self):
        for figures in ("0", "9"):
            finder, told = self.turned(figures)
            for figure in WRONG_FIGURES:
                with self.assertRaises(NoFigure):
                    finder.turn(figure)
            with self.assertRaises(NoTurn):
                finder.turn("0")

    def test_a_refused_figure_does_not_count(self):
        finder, told = self.turned("1")
        self.check_stays(finder)
        self.assertEqual(finder.turn("2"), "there")
        self.assertEqual(finder.group(), (0, 1))

    def test_each_by_itself(self):
        one, told = self.turned("1")
        other, told = self.turned("20")
        self.assertEqual((one.numbers(), other.numbers()), (["12", "130", "131"], ["20000000"]))
        self.assertEqual(Finder(BOOK).numbers(), ["12", "0", "130", "131", "20000000"])

    def test_the_book_changed_behind_the_making(self):  # 0.2
        book = list(BOOK)
        finder = Finder(book)
        book.reverse()
        book.pop()
        book.append(("7", (40,)))
        self.assertEqual(finder.numbers(), ["12", "0", "130", "131", "20000000"])
        self.assertEqual(finder.turn("1"), "on")
        book.clear()
        self.assertEqual(finder.turn("2"), "there")
        self.assertEqual((finder.numbers(), finder.group()), (["12"], (0, 1)))

    def test_the_book_stays(self):  # 0.2
        book = list(BOOK)
        finder, told = self.turned("13", book)
        finder.numbers().append("5")
        self.assertEqual(book, BOOK)

    def test_lists_told_stay(self):  # 0.2
        finder = Finder(BOOK)
        before = finder.numbers()
        finder.turn("1")
        self.assertEqual(before, ["12", "0", "130", "131", "20000000"])

    def test_all_figures_of_books(self):
        seen = set()
        for book in (BOOK, FORTY, [("7", (1,))], [("12", (0,)), ("11", (1,)), ("2", (2,)), ("101", (3,))]):
            for figures in itertools.chain.from_iterable(itertools.product("01237", repeat=many) for many in range(5)):
                finder = Finder(book)
                so_far = ""
                for figure in figures:
                    so_far += figure
                    left = [number for number, group in book if number.startswith(so_far)]
                    wanted = "there" if so_far in left else "on" if left else "nowhere"
                    seen.add(wanted)
                    self.assertEqual(finder.turn(figure), wanted)
                    self.assertEqual(finder.numbers(), left)
                    self.assertEqual(finder.group(), dict(book).get(so_far))
                    if wanted != "on":
                        break
        self.assertEqual(seen, {"on", "there", "nowhere"})

    def test_they_are_hall_errors(self):
        finder, told = self.turned("0")
        for figure in (None, "1"):
            with self.assertRaises(HallError):
                finder.turn(figure)


if __name__ == "__main__":
    unittest.main()
