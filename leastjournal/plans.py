"""Journal plans: whether the saved values and the present registers tell all histories apart."""

from leastjournal.differences import Differences, told_by_end
from leastjournal.errors import NotEnough
from leastjournal.field import dot, is_between, weights
from leastjournal.forms import carry
from leastjournal.histories import as_history, is_history
from leastjournal.losses import pushes
from leastjournal.programs import reads_before
from leastjournal.runs import Runner
from leastjournal.tracks import Track


def is_plan(n, program, moment, value):
    """Whether any value is a plan for a moment."""
    if not isinstance(value, tuple) or not all([is_entry(n, moment, part) for part in value]):
        return False
    return all([value[at] < value[at + 1] for at in range(len(value) - 1)])


def is_entry(n, moment, value):
    """Whether any value is an entry of a plan for a moment."""
    return (
        isinstance(value, tuple)
        and len(value) == 2
        and is_between(value[0], 0, moment)
        and is_between(value[1], 0, n - 1)
    )


def own_plan(p, n, program, moment):
    """Return the plan of the machine itself: each value that it pushes, at the step that pushes it."""
    return pushes(p, n, program, moment)


def sufficient(p, n, program, moment, plan):
    """Whether unlike histories always differ in the registers at the moment or in a saved value."""
    return unlike(p, n, program, moment, plan) is None


def unlike(p, n, program, moment, plan):
    """Return two histories that the plan cannot tell apart, None if there are none."""
    differences = Differences(Track(p, n, program))
    for time, x in plan:
        differences.advance(time)
        differences.see(x)
    differences.advance(moment)
    if differences.hidden is None:
        return None
    many = n + reads_before(program, moment)
    unknowns = differences.hidden + [0] * (many - len(differences.hidden))
    return as_history(n, [0] * many), as_history(n, unknowns)


def shows_unlike(p, n, program, moment, plan, value):
    """Whether any value is a right answer of unlike other than None."""
    reads = reads_before(program, moment)
    if not isinstance(value, tuple) or len(value) != 2:
        return False
    one, other = value
    if not is_history(p, n, reads, one) or not is_history(p, n, reads, other) or one == other:
        return False
    track = Track(p, n, program)
    return shown(track, moment, plan, one) == shown(track, moment, plan, other)


def shown(track, moment, plan, history):
    """Return what the plan saves of a history, and at last its registers at the moment."""
    runner = Runner(track.p, history[0], history[1])
    found = []
    late = 0
    for time, x in plan:
        carry(runner, track, late, time)
        found.append(runner.row[x + 1])
        late = time
    carry(runner, track, late, moment)
    return found + runner.row


def shrunk(p, n, program, moment, plan):
    """Return what is left of a plan if each entry is removed that can be, the last one first."""
    # An entry can be removed exactly if the registers at the moment and the entries before it tell
    # its value: those behind it that are left are independent of all that stands before them.
    track = Track(p, n, program)
    told = told_by_end(track, moment, sorted(set([entry[0] for entry in plan])))
    differences = Differences(track)
    kept = []
    for time, x in plan:
        differences.advance(time)
        if not is_told(p, differences.directions, told[time], x):
            kept.append((time, x))
        differences.see(x)
    differences.advance(moment)
    if differences.hidden is not None:
        raise NotEnough()
    return tuple(kept)


def is_told(p, directions, rows, x):
    """Whether all differences that are 0 in these rows of weights are 0 in register x."""
    seen = [[dot(p, row, direction) for direction in directions] for row in rows]
    return weights(p, seen, [direction[x + 1] for direction in directions]) is not None
