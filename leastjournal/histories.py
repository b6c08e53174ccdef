"""The way back: the history that led to given registers and a given journal."""

from leastjournal.field import weights
from leastjournal.flows import zero_flow
from leastjournal.programs import locate
from leastjournal.tracks import product


def history_of(track, program, moment, registers, journal):
    """Return the initial registers and the inputs read before the moment, None if no history leads there."""
    flow = zero_flow(track)
    flow.advance(moment)
    if len(flow.pushed) != len(journal):
        return None
    cells = list(registers)
    inputs = []
    for index, (before, after) in reversed(list(enumerate(stretches(track, moment, flow.pushed)))):
        # There are such weights exactly if some history has these registers at the end of the stretch.
        found = weights(track.p, after, [1, *cells])
        if found is None:
            return None
        # Rows that were added on the way belong to reads; their weights are the inputs.
        inputs.extend(found[len(before):][::-1])
        cells = product(track.p, found[:len(before)], before)[1:]
        if index > 0:
            step, x = flow.pushed[index - 1]
            if locate(program, step)[1][0] == "read":
                inputs.append(cells[x])
            cells[x] = journal[index - 1]
    return tuple(cells), tuple(inputs[::-1])


def stretches(track, moment, pushed):
    """Return, for each stretch between pushes, the rows of the zero flow at its begin and at its end."""
    found = []
    flow = zero_flow(track)
    for step, x in pushed:
        before = flow.rows()
        flow.advance(step)
        found.append((before, flow.rows()))
        flow.advance(step + 1)
    before = flow.rows()
    flow.advance(moment)
    found.append((before, flow.rows()))
    return found
