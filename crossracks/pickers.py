"""Pickers: in which order the ends of a group are looked at, and the hunt along that order."""

from crossracks.errors import NoKind


class Picker:
    def __init__(self, group):
        self.ends = tuple(group)

    def order(self):
        return list(self.ends)

    # As they stand in the group, whichever was taken.
    def took(self, end):
        pass


class RoundPicker(Picker):
    def __init__(self, group):
        Picker.__init__(self, group)
        self.start = 0

    def order(self):
        return list(self.ends[self.start:] + self.ends[:self.start])

    def took(self, end):
        self.start = self.ends.index(end) + 1


class RestedPicker(Picker):
    def __init__(self, group):
        Picker.__init__(self, group)
        self.times = dict([(end, 0) for end in self.ends])

    # Of those taken as often sorted keeps the order in which they stand.
    def order(self):
        return sorted(self.ends, key=lambda end: self.times[end])

    def took(self, end):
        self.times[end] += 1


def picker_of(kind, group):
    # Things of other kinds may claim to be like a word, so only texts are compared.
    if isinstance(kind, str):
        if kind == "first":
            return Picker(group)
        if kind == "round":
            return RoundPicker(group)
        if kind == "rested":
            return RestedPicker(group)
    raise NoKind("no picker is of this kind")


def hunted(picker, way):
    looked = []
    for end in picker.order():
        looked.append(end)
        k = way(end)
        # Rack amid 0 is a rack like any other.
        if k is not None:
            picker.took(end)
            return (looked, end, k)
    return (looked, None, None)
