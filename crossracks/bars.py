"""The bars that a call closes, and how calls are written."""

from crossracks.errors import NoCalls
from crossracks.halls import is_call, place_in, place_out, racks_of, written_number
from crossracks.lines import is_right


def bars_of(hall, call):
    k = call[2]
    start = place_in(hall, call[0])
    bars = [(0, start[0], start[1], k)]
    for rack in racks_of(hall, call[1]):
        bars.append((1, k, start[0], rack))
    for end in call[1]:
        goal = place_out(hall, end)
        bars.append((2, goal[0], k, goal[1]))
    return sorted(bars)


# What writes no number becomes None, which no call holds.
def read_call(text):
    parts = text.partition(">")
    rest = parts[2].partition("@")
    ends = [written_number(word) for word in rest[0].split(",")]
    return (written_number(parts[0]), tuple(ends), written_number(rest[2]))


def read_calls(hall, text):
    # Splitting the text without signs would give one call without signs.
    written = text.split("; ") if text != "" else []
    calls = [read_call(one) for one in written]
    if not all([is_call(hall, call) for call in calls]) or not is_right(hall, calls):
        raise NoCalls(f"no right calls of the hall are written by {text!r}")
    return calls


def shown_call(call):
    caller = call[0]
    ends = ",".join([str(end) for end in call[1]])
    k = call[2]
    return f"{caller}>{ends}@{k}"


def shown_calls(calls):
    return "; ".join([shown_call(call) for call in calls])
