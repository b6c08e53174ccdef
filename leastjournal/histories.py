"""Histories: which values are histories, and the one that led to given registers and a given journal."""

from leastjournal.field import are_cells, weights
from leastjournal.flows import zero_flow
from leastjournal.programs import locate
from leastjournal.tracks import product


def is_history(p, n, reads, value):
    """Whether any value is a history with n registers and this many inputs."""
    return (
        isinstance(value, tuple)
        and len(value) == 2
        and are_cells(p, value[0])
        and are_cells(p, value[1])
        and (len(value[0]), len(value[1])) == (n, reads)
    )


def as_history(n, unknowns):
    """Return the history that has these unknowns."""
    return tuple(unknowns[:n]), tuple(unknowns[n:])


def history_of(track, program, moment, registers, journal):
    """Return the initial registers and the inputs read before the moment, None if no history leads there."""
    flow = zero_flow(track)
    flow.advance(moment)
    if len(flow.pushed) != len(journal):
        return None
    cells = list(registers)
    inputs = []
    for index, (before, after) in reversed(list(enumerate(stretches(track, moment, flow.pushed)))):
        # There are such weights exactly if some history has these registers at the end of the stretch.
        found = weights(track.p, after, [1, *cells])
        if found is None:
            return None
        # Rows that were added on the way belong to reads; their weights are the inputs.
        inputs.extend(found[len(before):][::-1])
        cells = product(track.p, found[:len(before)], before)[1:]
        if index > 0:
            step, x = flow.pushed[index - 1]
            if locate(program, step)[1][0] == "read":
                inputs.append(cells[x])
            cells[x] = journal[index - 1]
    return tuple(cells), tuple(inputs[::-1])


def stretches(track, moment, pushed):
    """Return, for each stretch between pushes, the rows of the zero flow at its begin and at its end."""
    found = []
    flow = zero_flow(track)
    for step, x in pushed:
        before = flow.rows()
        flow.advance(step)
        found.append((before, flow.rows()))
        flow.advance(step + 1)
    before = flow.rows()
    flow.advance(moment)
    found.append((before, flow.rows()))
    return found
