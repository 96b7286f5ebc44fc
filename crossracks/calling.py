"""One call: joined by a rule of hunting, found among the others, ended."""

from crossracks.errors import Busy, Engaged, Idle, NoLine
from crossracks.halls import is_number
from crossracks.rules import Rule
from crossracks.ways import holders, is_caller, is_ends, least_ended, ways


# To Python 1.0 and True are like 1, so what is no whole number is sorted out first.
def call_of(calls, caller):
    if not is_number(caller):
        return None
    for call in calls:
        if call[0] == caller:
            return call
    return None


def holder_of(calls, end):
    if not is_number(end):
        return None
    for call in calls:
        if end in call[1]:
            return call[0]
    return None


def refuse_wrong(hall, caller, ends):
    if not is_caller(hall, caller):
        raise NoLine("no caller of the hall")
    if not is_ends(hall, ends):
        raise NoLine("no ends of the hall")


def refuse_busy(calls, caller, ends):
    if call_of(calls, caller) is not None:
        raise Busy(caller)
    for end in sorted(ends):
        who = holder_of(calls, end)
        if who is not None:
            raise Busy(who)


def refuse_engaged(hall, calls, caller, ends, shut):
    raise Engaged(holders(hall, calls, caller, ends), least_ended(hall, calls, caller, ends, shut))


def with_call(calls, caller, ends, k):
    # The callers are unlike, so the calls are sorted by these alone.
    return sorted(calls + [(caller, tuple(sorted(ends)), k)])


def joined(hall, calls, caller, ends, rule=None, shut=0):
    refuse_wrong(hall, caller, ends)
    refuse_busy(calls, caller, ends)
    free = ways(hall, calls, caller, ends, shut)
    if free == []:
        refuse_engaged(hall, calls, caller, ends, shut)
    hunter = Rule() if rule is None else rule
    k = hunter.choose(hall, calls, free)
    return with_call(calls, caller, ends, k)


def ended(calls, caller):
    if call_of(calls, caller) is None:
        raise Idle("no call has this caller")
    return [call for call in calls if call[0] != caller]
