"""Differences between histories: those that no value shows which was seen so far."""

from leastjournal.field import dot, inverse, less, rank, weights
from leastjournal.steps import cleared, executed, overwritten, pulled, unit
from leastjournal.tracks import pieces, units


class Differences:
    """All differences between two histories that agree in the values seen so far, on their way.

    Each of them is a sum of the directions, which are the differences of the registers at this moment. As
    long as the directions are independent, a difference that is not 0 can still be seen in the registers.
    If a step makes them dependent, there is a difference that nothing will ever show: the hidden one.
    """

    def __init__(self, track):
        self.track = track
        self.moment = 0
        self.directions = units(track.n)[1:]
        self.trail = []
        self.hidden = None

    def advance(self, moment):
        """Go on to a moment that is not before the present one."""
        for step, part, rounds in pieces(self.track, self.moment, moment):
            if self.hidden is None:
                self.follow_piece(part, rounds)
        self.moment = moment

    def follow_piece(self, part, rounds):
        """Go on behind a piece of the run."""
        if part.body is not None:
            self.arrive([part.after(rounds, row) for row in self.directions])
        elif part.instruction[0] == "read":
            x = part.instruction[1]
            self.arrive([cleared(row, x) for row in self.directions])
            self.directions.append(unit(self.track.n + 1, x + 1))
        else:
            after = [executed(self.track.p, part.instruction, row) for row in self.directions]
            if overwritten(part.instruction) is None:
                self.directions = after
            else:
                self.arrive(after)

    def arrive(self, after):
        """Replace the directions by what they have become."""
        if rank(self.track.p, after) < len(after):
            self.hidden = self.unknowns(dependence(self.track.p, after))
        self.directions = after

    def see(self, x):
        """Keep only the differences that are 0 in register x at this moment."""
        taken = cut(self.track.p, self.directions, x + 1)
        if taken is not None:
            at, factors, self.directions = taken
            self.trail.append((at, factors))

    def unknowns(self, amounts):
        """Return the unknowns up to this moment of the sum of the directions with these amounts."""
        # A read adds its direction at the end, and dot stops where the factors end: so the directions that
        # came later keep their places behind the others, and at last there is one for each unknown.
        found = list(amounts)
        for at, factors in reversed(self.trail):
            found.insert(at, -dot(self.track.p, factors, found) % self.track.p)
        return found


def dependence(p, rows):
    """Return amounts, not all 0, with which the sum of rows is 0; rows are not independent."""
    at = 0
    found = weights(p, [], rows[0])
    while found is None:
        at += 1
        found = weights(p, rows[:at], rows[at])
    return [-amount % p for amount in found] + [1] + [0] * (len(rows) - at - 1)


def cut(p, rows, place):
    """Return rows that span what has 0 at place in the span of rows; None if all rows have 0 there.

    The result is (at, factors, others): rows without the one at this index, which has been taken away from
    each of the others with one of the factors.
    """
    leading = [index for index, row in enumerate(rows) if row[place] != 0]
    if leading == []:
        return None
    at = leading[0]
    taken = rows[at]
    others = rows[:at] + rows[at + 1:]
    back = inverse(p, taken[place])
    factors = [row[place] * back % p for row in others]
    return at, factors, [less(p, row, factor, taken) for row, factor in zip(others, factors)]


def told_by_end(track, moment, times):
    """Return a dict from each of the ascending times to rows of weights for the registers at that time.

    The rows span all sums of these registers that are the same in any two histories with the same
    registers at the moment.
    """
    found = {}
    rows = units(track.n)[1:]
    late = moment
    for time in reversed(times):
        for step, part, rounds in reversed(pieces(track, time, late)):
            rows = told_before(track.p, part, rounds, rows)
        found[time] = rows
        late = time
    return found


def told_before(p, part, rounds, rows):
    """Return rows that span, before a piece of the run, what rows span behind it."""
    if part.body is not None:
        return [part.before(rounds, row) for row in rows]
    kept = rows
    if part.instruction[0] == "read":
        # What is read there is not known before, so only sums without it can be told.
        taken = cut(p, rows, part.instruction[1] + 1)
        if taken is not None:
            kept = taken[2]
    return [pulled(p, part.instruction, row) for row in kept]
