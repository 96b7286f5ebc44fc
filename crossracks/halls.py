"""Halls: their numbers, the places in their racks, what a call of one is, how one is written."""

from crossracks.errors import NoHall

FIGURES = "0123456789"
# The greatest ins, callers, amid, outs and ends that a hall may have.
MOSTS = (12, 12, 24, 12, 12)


# To Python a truth is an int; here it is no whole number.
def is_number(thing):
    return isinstance(thing, int) and not isinstance(thing, bool)


def is_whole(thing, least, most):
    return is_number(thing) and least <= thing <= most


def rises(numbers):
    return all([one < other for one, other in zip(numbers, numbers[1:])])


def is_hall(thing):
    if not isinstance(thing, tuple) or len(thing) != len(MOSTS):
        return False
    return all([is_whole(number, 1, most) for number, most in zip(thing, MOSTS)])


def place_in(hall, caller):
    return divmod(caller, hall[1])


def place_out(hall, end):
    return divmod(end, hall[4])


def are_ends(hall, things):
    last = hall[3] * hall[4] - 1
    return all([is_whole(thing, 0, last) for thing in things])


def is_rising_ends(hall, thing):
    if not isinstance(thing, tuple) or len(thing) == 0:
        return False
    return are_ends(hall, thing) and rises(thing)


def is_call(hall, thing):
    if not isinstance(thing, tuple) or len(thing) != 3:
        return False
    if not is_whole(thing[0], 0, hall[0] * hall[1] - 1):
        return False
    return is_rising_ends(hall, thing[1]) and is_whole(thing[2], 0, hall[2] - 1)


def racks_of(hall, ends):
    return sorted(set([place_out(hall, end)[0] for end in ends]))


def written_number(word):
    if len(word) < 1 or len(word) > 3:
        return None
    # Figures of other scripts are digits to Python, so the ten are asked for one by one.
    if any([sign not in FIGURES for sign in word]):
        return None
    if word[0] == "0" and word != "0":
        return None
    return int(word)


def read_pair(word):
    parts = word.partition("x")
    return (written_number(parts[0]), written_number(parts[2]))


def read_hall(text):
    words = text.split(" ")
    if len(words) != 3:
        raise NoHall(f"no hall is written by {text!r}")
    # What writes no number has become None, which no hall holds.
    hall = read_pair(words[0]) + (written_number(words[1]),) + read_pair(words[2])
    if not is_hall(hall):
        raise NoHall(f"no hall is written by {text!r}")
    return hall


def shown_hall(hall):
    ins = "x".join([str(number) for number in hall[:2]])
    amid = str(hall[2])
    outs = "x".join([str(number) for number in hall[3:]])
    return f"{ins} {amid} {outs}"
