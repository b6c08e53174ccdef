"""What the present registers tell of the past and of the future."""

from leastjournal.field import are_cells, is_between, weights
from leastjournal.forms import forms, state_at
from leastjournal.histories import as_history, is_history
from leastjournal.programs import reads_before
from leastjournal.steps import unit


def readable(p, n, program, now, then, x):
    """Return the sum of the registers at now that is x at then, or two histories that show that there is none."""
    present, wanted = both_forms(p, n, program, now, then, x)
    # The constant is the weight of a row that is 1 for every history.
    found = weights(p, [unit(len(wanted), 0), *present], wanted)
    if found is not None:
        return ("sum", found[0], found[1:])
    zeros = [0] * (len(wanted) - 1)
    return ("apart", as_history(n, zeros), as_history(n, unseen(p, present, wanted)))


def both_forms(p, n, program, now, then, x):
    """Return the forms of the registers at now, and that of x at then, all with the unknowns of the later moment."""
    width = 1 + n + reads_before(program, max(now, then))
    present = [padded(form, width) for form in forms(p, n, program, now)]
    return present, padded(forms(p, n, program, then)[x], width)


def padded(row, width):
    """Return the row with zeros at its end."""
    return list(row) + [0] * (width - len(row))


def unseen(p, present, wanted):
    """Return unknowns that change no present form, but the wanted one by 1; it is no sum of the present ones."""
    rows = [*present, wanted]
    columns = list(zip(*rows))
    return weights(p, columns[1:], unit(len(rows), len(present)))


def shows_readable(p, n, program, now, then, x, value):
    """Whether any value is a right answer of readable."""
    if not isinstance(value, tuple) or len(value) != 3:
        return False
    if value[0] == "sum":
        return is_sum(p, n, program, now, then, x, value)
    return value[0] == "apart" and is_apart(p, n, program, now, then, x, value)


def is_sum(p, n, program, now, then, x, value):
    """Whether a tuple of three is a sum that is right for every history."""
    word, constant, factors = value
    if not is_between(constant, 0, p - 1) or not are_cells(p, factors) or len(factors) != n:
        return False
    present, wanted = both_forms(p, n, program, now, then, x)
    total = [constant] + [0] * (len(wanted) - 1)
    for factor, form in zip(factors, present):
        total = [a + factor * b for a, b in zip(total, form)]
    return [a % p for a in total] == wanted


def is_apart(p, n, program, now, then, x, value):
    """Whether a tuple of three holds two histories with equal registers at now and unlike values of x at then."""
    word, one, other = value
    reads = reads_before(program, max(now, then))
    if not is_history(p, n, reads, one) or not is_history(p, n, reads, other):
        return False
    return (
        state_at(p, program, one[0], one[1], now) == state_at(p, program, other[0], other[1], now)
        and state_at(p, program, one[0], one[1], then)[x] != state_at(p, program, other[0], other[1], then)[x]
    )
