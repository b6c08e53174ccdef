"""Whether two programs do the same for every history."""

from leastjournal.field import is_between
from leastjournal.forms import runner_at
from leastjournal.histories import as_history, is_history
from leastjournal.programs import read_count, write_count
from leastjournal.races import Race
from leastjournal.tracks import Track


def differ(p, n, one, other):
    """Return what shows that two programs are not the same, None if they are the same for every history."""
    counts = unlike_counts(one, other)
    if counts is not None:
        return counts
    tracks = (Track(p, n, one), Track(p, n, other))
    unknowns = [0] * (n + read_count(one))
    if not are_unlike(tracks, as_history(n, unknowns)):
        # Both do the same where all unknowns are 0, so they differ for those that change them unlike.
        unknowns = Race(tracks[0], tracks[1]).finish()
    if unknowns is None:
        return None
    registers, inputs = as_history(n, unknowns)
    return ("history", registers, inputs)


def unlike_counts(one, other):
    """Return the numbers of reads or else of writes if two programs differ in them, None if they do not."""
    if read_count(one) != read_count(other):
        return ("reads", read_count(one), read_count(other))
    if write_count(one) != write_count(other):
        return ("writes", write_count(one), write_count(other))
    return None


def are_unlike(tracks, history):
    """Whether two programs end a history with unlike registers or outputs."""
    ends = [runner_at(track, history[0], history[1], track.steps) for track in tracks]
    return ends[0].row != ends[1].row or ends[0].written != ends[1].written


def shows_differ(p, n, one, other, value):
    """Whether any value is a right answer of differ other than None."""
    if not isinstance(value, tuple) or len(value) != 3:
        return False
    word, first, second = value
    counts = unlike_counts(one, other)
    if counts is not None:
        return word == counts[0] and is_number(first, counts[1]) and is_number(second, counts[2])
    history = (first, second)
    if word != "history" or not is_history(p, n, read_count(one), history):
        return False
    return are_unlike((Track(p, n, one), Track(p, n, other)), history)


def is_number(value, number):
    """Whether any value is this integer; a boolean is not."""
    return is_between(value, number, number)
