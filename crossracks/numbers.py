"""Books of numbers, and finders that go through a book figure by figure."""

from crossracks.errors import NoBook, NoFigure, NoTurn
from crossracks.halls import FIGURES
from crossracks.ways import is_ends

MOST_ROWS = 40
# The most figures of a number, and the most ends of a group.
MOST_FIGURES = 8
MOST_ENDS = 8


# To Python the text without signs stands within every text, so the length is asked for, too.
def is_figure(thing):
    return isinstance(thing, str) and len(thing) == 1 and thing in FIGURES


def is_dialled(thing):
    if not isinstance(thing, str) or len(thing) < 1 or len(thing) > MOST_FIGURES:
        return False
    return all([is_figure(sign) for sign in thing])


def is_group(hall, thing):
    return isinstance(thing, tuple) and len(thing) <= MOST_ENDS and is_ends(hall, thing)


def is_row(hall, thing):
    if not isinstance(thing, tuple) or len(thing) != 2:
        return False
    return is_dialled(thing[0]) and is_group(hall, thing[1])


def clash(one, other):
    if one[0].startswith(other[0]) or other[0].startswith(one[0]):
        return True
    return any([end in other[1] for end in one[1]])


def book_of(hall, rows):
    if len(rows) == 0:
        raise NoBook(0)
    for place, row in enumerate(rows):
        if place >= MOST_ROWS or not is_row(hall, row) or any([clash(row, ahead) for ahead in rows[:place]]):
            raise NoBook(place)
    return list(rows)


class Finder:
    # Of the book a copy is kept, so that what is done to it behind changes nothing.
    def __init__(self, book):
        self.rows = list(book)
        self.figures = ""

    # No number begins with another one, so where one is dialled whole, no other is left.
    def stands(self):
        if self.rows == []:
            return "nowhere"
        return "there" if self.rows[0][0] == self.figures else "on"

    def turn(self, figure):
        if not is_figure(figure):
            raise NoFigure("no figure")
        if self.stands() != "on":
            raise NoTurn("the finder goes no further")
        self.figures = self.figures + figure
        self.rows = [row for row in self.rows if row[0].startswith(self.figures)]
        return self.stands()

    def numbers(self):
        return [row[0] for row in self.rows]

    def group(self):
        return self.rows[0][1] if self.stands() == "there" else None
