"""Entries of tables and of turns: tuples of two numbers, none of which comes twice on its side."""

from crossracks.halls import is_whole


def is_entry(thing, firsts, seconds):
    if not isinstance(thing, tuple) or len(thing) != 2:
        return False
    return is_whole(thing[0], 0, firsts - 1) and is_whole(thing[1], 0, seconds - 1)


# Where all are right, there is no such place: None.
def first_wrong(things, firsts, seconds):
    ones = {}
    others = {}
    for place, thing in enumerate(things):
        # What is no entry may not fit into a dict, so the kinds are asked for first.
        if not is_entry(thing, firsts, seconds) or thing[0] in ones or thing[1] in others:
            return place
        ones[thing[0]] = True
        others[thing[1]] = True
    return None
