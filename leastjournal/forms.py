"""Registers at any moment: as forms over all histories, and as values of one history."""

from leastjournal.runs import Runner
from leastjournal.steps import pulled, unit
from leastjournal.tracks import Track, pieces


def forms(p, n, program, moment):
    """Return the tuple of the forms of all registers at a moment."""
    # Going back from the moment, the weights stay as few as the registers are: a read
    # fixes the weight of its input for good, and no weight of another input is touched.
    rows = [unit(n + 1, x + 1) for x in range(n)]
    columns = []
    for step, part, rounds in reversed(pieces(Track(p, n, program), 0, moment)):
        if part.body is not None:
            rows = [part.before(rounds, row) for row in rows]
            continue
        if part.instruction[0] == "read":
            place = part.instruction[1] + 1
            columns.append([row[place] for row in rows])
        rows = [pulled(p, part.instruction, row) for row in rows]
    columns.reverse()
    return tuple([tuple(rows[x] + [column[x] for column in columns]) for x in range(n)])


def state_at(p, program, registers, inputs, moment):
    """Return the registers at a moment, for one history."""
    track = Track(p, len(registers), program)
    return tuple(runner_at(track, registers, inputs, moment).row[1:])


def outputs_at(p, program, registers, inputs, moment):
    """Return what was written before a moment, for one history."""
    track = Track(p, len(registers), program)
    return tuple(runner_at(track, registers, inputs, moment).written)


def runner_at(track, registers, inputs, moment):
    """Return the runner of one history at a moment."""
    runner = Runner(track.p, registers, inputs)
    carry(runner, track, 0, moment)
    return runner


def carry(runner, track, start, stop):
    """Carry a runner from moment start to moment stop."""
    for step, part, rounds in pieces(track, start, stop):
        if part.body is None:
            runner.perform(part.instruction)
        else:
            runner.leap(part, rounds)
