"""Rules of hunting: each chooses one of the racks amid that are free."""

from crossracks.counts import loads
from crossracks.errors import NoRule


class Rule:
    def choose(self, hall, calls, free):
        return free[0]


# Of several alike max and min tell the first, and free rises.
class Fullest(Rule):
    def choose(self, hall, calls, free):
        load = loads(hall, calls)
        return max(free, key=lambda k: load[k])


class Emptiest(Rule):
    def choose(self, hall, calls, free):
        load = loads(hall, calls)
        return min(free, key=lambda k: load[k])


class Round(Rule):
    def __init__(self, start=0):
        self.start = start

    def choose(self, hall, calls, free):
        further = [k for k in free if k >= self.start]
        chosen = further[0] if further != [] else free[0]
        self.start = chosen + 1
        return chosen


class Told(Rule):
    # A copy, so that what is done to the list behind changes nothing.
    def __init__(self, listed):
        self.racks = list(listed)

    def choose(self, hall, calls, free):
        for k in self.racks:
            if k in free:
                return k
        return free[0]


def rule_of(word):
    # Things of other kinds may claim to be like a word, so only texts are compared.
    if isinstance(word, str):
        if word == "first":
            return Rule()
        if word == "fullest":
            return Fullest()
        if word == "emptiest":
            return Emptiest()
        if word == "round":
            return Round()
    raise NoRule("no rule of hunting has this word")
