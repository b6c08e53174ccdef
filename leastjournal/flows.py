"""Runs that are followed together with all others: which steps push, and what."""

from leastjournal.field import echelon, rank
from leastjournal.runs import Runner
from leastjournal.steps import cleared, executed, overwritten, unit
from leastjournal.tracks import pieces


class Flow:
    """One history on its way, with the directions in which the registers of all histories differ.

    The registers that other histories have at this moment are those of this one plus any sum of the
    directions, which are independent. So a step loses a direction exactly if it pushes. From one push to
    the next, each direction is where the same one of before has come; a read adds a direction at the end.
    """

    def __init__(self, track, registers, inputs):
        self.track = track
        self.runner = Runner(track.p, registers, inputs)
        self.directions = [unit(track.n + 1, x + 1) for x in range(track.n)]
        self.moment = 0
        self.pushed = []
        self.saved = []

    def advance(self, moment):
        """Go on to a moment that is not before the present one."""
        for step, part, rounds in pieces(self.track, self.moment, moment):
            self.follow(step, part, rounds)
        self.moment = moment

    def follow(self, step, part, rounds):
        """Follow a piece that begins at this step."""
        if part.body is None:
            self.follow_step(step, part.instruction)
            return
        after = [part.after(rounds, row) for row in self.directions]
        if rank(self.track.p, after) == len(after):
            self.runner.leap(part, rounds)
            self.directions = after
        elif rounds > 1:
            self.follow_rounds(step, part, rounds)
        else:
            for start, inner, turns in pieces(part.body, 0, part.body.steps):
                self.follow(step + start, inner, turns)

    def follow_rounds(self, step, part, rounds):
        """Follow several rounds of a loop that pushes."""
        # A direction that is not lost within n rounds is never lost: the powers of a matrix
        # with n rows and columns keep the rank that they have from the n-th one on.
        early = min(rounds, self.track.n)
        for turn in range(early):
            self.follow(step + turn * part.body.steps, part, 1)
        self.follow(step + early * part.body.steps, part, rounds - early)

    def follow_step(self, step, instruction):
        """Follow a single step."""
        x = overwritten(instruction)
        if x is not None:
            self.overwrite(step, x)
        if instruction[0] == "read":
            self.directions.append(unit(self.track.n + 1, x + 1))
        else:
            self.directions = [executed(self.track.p, instruction, row) for row in self.directions]
        self.runner.perform(instruction)

    def overwrite(self, step, x):
        """Clear register x in all directions; push its value if a direction is lost by that."""
        kept = [cleared(row, x) for row in self.directions]
        basis = echelon(self.track.p, kept)
        if len(basis) == len(kept):
            self.directions = kept
            return
        self.directions = list(basis.values())
        self.pushed.append((step, x))
        self.saved.append(self.runner.row[x + 1])

    def rows(self):
        """Return the row of the registers, followed by the directions."""
        return [list(row) for row in (self.runner.row, *self.directions)]


def zero_flow(track):
    """Return the flow of the history in which all values are 0."""
    return Flow(track, (0,) * track.n, (0,) * track.reads)
