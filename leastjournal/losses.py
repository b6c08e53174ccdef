"""What is lost: which overwritten values cannot be computed from those that remain."""

from leastjournal.field import rank, weights
from leastjournal.flows import zero_flow
from leastjournal.forms import forms
from leastjournal.programs import locate, reads_before
from leastjournal.steps import overwritten
from leastjournal.tracks import Track


def loss(p, n, program, moment):
    """Return the number of unknowns up to a moment, less the rank of the moment."""
    linear = [form[1:] for form in forms(p, n, program, moment)]
    return n + reads_before(program, moment) - rank(p, linear)


def pushes(p, n, program, moment):
    """Return (step, register) for all steps below moment that push, ascending."""
    flow = zero_flow(Track(p, n, program))
    flow.advance(moment)
    return tuple(flow.pushed)


def recovery(p, n, program, step):
    """Return how the value that a step overwrites is found again, None if it overwrites none."""
    path, instruction = locate(program, step)
    x = overwritten(instruction)
    if x is None:
        return None
    table = forms(p, n, program, step)
    linear = [form[1:] for form in table]
    # A row of zeros in the place of x has the weight 0, so that x does not give itself.
    others = linear[:x] + [(0,) * len(linear[x])] + linear[x + 1:]
    found = weights(p, others, linear[x])
    if found is None:
        return ("pop", x)
    constant = (table[x][0] - sum([weight * form[0] for weight, form in zip(found, table)])) % p
    return ("sum", x, constant, found)
