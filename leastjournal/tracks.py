"""Programs prepared for travelling: any stretch of a run as a list of few pieces.

A loop that executes no reads and no writes is a piece as a whole, however many rounds it has: its rounds
are a power of one matrix. Loops that read or write have few rounds, and are taken apart.
"""

from leastjournal.field import dot
from leastjournal.programs import read_count, write_count
from leastjournal.steps import executed, unit


class Track:
    """A program, or the body of a loop, prepared for p and n."""

    def __init__(self, p, n, program):
        self.p = p
        self.n = n
        self.parts = [Part(p, n, instruction) for instruction in program]
        self.steps = sum([part.steps for part in self.parts])
        self.reads = read_count(program)
        self.loud = self.reads + write_count(program) > 0


class Part:
    """An instruction; a loop has a body, and keeps the powers of its matrix that were asked for."""

    def __init__(self, p, n, instruction):
        self.p = p
        self.n = n
        self.instruction = instruction
        self.steps = 1
        self.body = None
        if instruction[0] == "loop":
            self.body = Track(p, n, instruction[2])
            self.steps = instruction[1] * self.body.steps
        self.squares = []
        self.whole = None

    def after(self, rounds, row):
        """Return the row of values or differences behind this many rounds of the loop."""
        moved = row
        for matrix in self.factors(rounds):
            moved = product(self.p, moved, matrix)
        return moved

    def before(self, rounds, row):
        """Return the weights that give, before this many rounds of the loop, what row gives behind them."""
        moved = row
        for matrix in self.factors(rounds):
            moved = [dot(self.p, image, moved) for image in matrix]
        return moved

    def factors(self, rounds):
        """Return matrices, in any order, whose product is that of this many rounds."""
        if rounds != self.instruction[1]:
            return self.binary(rounds)
        # The whole loop is kept as one matrix, since a loop around it asks for it in each round.
        if self.whole is None:
            rows = units(self.n)
            for matrix in self.binary(rounds):
                rows = [product(self.p, row, matrix) for row in rows]
            self.whole = rows
        return [self.whole]

    def binary(self, rounds):
        """Return the squares whose product is the matrix of this many rounds."""
        found = []
        rest = rounds
        at = 0
        while rest > 0:
            if rest % 2 == 1:
                found.append(self.square(at))
            rest //= 2
            at += 1
        return found

    def square(self, at):
        """Return the matrix of one round, squared this many times."""
        if self.squares == []:
            self.squares.append([self.behind_body(row) for row in units(self.n)])
        while len(self.squares) <= at:
            last = self.squares[-1]
            self.squares.append([product(self.p, row, last) for row in last])
        return self.squares[at]

    def behind_body(self, row):
        """Return the row behind one round, found step by step."""
        moved = row
        for start, part, rounds in pieces(self.body, 0, self.body.steps):
            if part.body is None:
                moved = executed(self.p, part.instruction, moved)
            else:
                moved = part.after(rounds, moved)
        return moved


def units(n):
    """Return the matrix that changes no row of n registers."""
    return [unit(n + 1, place) for place in range(n + 1)]


def product(p, row, matrix):
    """Return the sum of the rows of matrix, with the numbers of row as weights."""
    total = [0] * len(matrix[0])
    for factor, image in zip(row, matrix):
        if factor != 0:
            total = [a + factor * b for a, b in zip(total, image)]
    return [a % p for a in total]


def pieces(track, start, stop):
    """Return (step, part, rounds) for each piece of the run from moment start to moment stop.

    The piece begins at this step; it is a step, or this many rounds of a loop without reads and writes.
    """
    found = []
    gather(track, start, stop, 0, found)
    return found


def gather(track, start, stop, offset, found):
    """Append the pieces from start to stop; offset is the step at which the track begins."""
    begin = 0
    for part in track.parts:
        low = max(start - begin, 0)
        high = min(stop - begin, part.steps)
        if low < high:
            gather_part(part, low, high, offset + begin, found)
        begin += part.steps


def gather_part(part, low, high, offset, found):
    """Append the pieces of a part from its moment low to its moment high, which is greater."""
    if part.body is None:
        found.append((offset, part, 1))
        return
    steps = part.body.steps
    turn = low // steps
    while turn * steps < high:
        begin = turn * steps
        rounds = high // steps - turn
        if part.body.loud or low > begin or rounds == 0:
            gather(part.body, max(low - begin, 0), min(high - begin, steps), offset + begin, found)
            turn += 1
        else:
            found.append((offset + begin, part, rounds))
            turn += rounds
