"""Tables: callers and the ends that they ask for, joined all at once."""

from crossracks.entries import first_wrong
from crossracks.errors import NoTable
from crossracks.halls import place_in, place_out
from crossracks.lines import left_open
from crossracks.partings import parted


def refuse_table(hall, table):
    place = first_wrong(table, hall[0] * hall[1], hall[3] * hall[4])
    if place is not None:
        raise NoTable(place)


def pairs_of(hall, table):
    refuse_table(hall, table)
    return [(place_in(hall, entry[0])[0], place_out(hall, entry[1])[0]) for entry in table]


def open_racks(hall, shut=0):
    return left_open(hall, shut)


def at_once(hall, table, shut=0):
    # Ahead of the sorting: the place that is refused is that in the table as it was handed in.
    refuse_table(hall, table)
    # A parting hangs on the order of its pairs, the calls must not.
    entries = sorted(table)
    racks = open_racks(hall, shut)
    numbers = parted(pairs_of(hall, entries), len(racks))
    return [(entry[0], (entry[1],), racks[number]) for entry, number in zip(entries, numbers)]
