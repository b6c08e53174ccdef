"""Two programs side by side, over all histories at once."""

from leastjournal.field import dot, echelon, weights
from leastjournal.steps import cleared, executed, unit
from leastjournal.tracks import pieces, units


class Side:
    """One of two programs on its way.

    A line shows what has become of a 1 in the place of a 0 among the unknowns: the difference that it makes
    for the registers. What was written is queued until it is compared, as one number for each line.
    """

    def __init__(self, track):
        self.track = track
        self.ahead = pieces(track, 0, track.steps)
        self.at = 0
        self.lines = units(track.n)[1:]
        self.queue = []

    def proceed(self):
        """Go on to the next read, or to the end, where all registers are written."""
        while self.at < len(self.ahead):
            step, part, rounds = self.ahead[self.at]
            if part.instruction[0] == "read":
                return
            self.pass_piece(part, rounds)
            self.at += 1
        for x in range(self.track.n):
            self.tell(x)

    def pass_piece(self, part, rounds):
        """Go on behind a piece that is not a read."""
        if part.body is not None:
            self.lines = [part.after(rounds, line) for line in self.lines]
        elif part.instruction[0] == "write":
            self.tell(part.instruction[1])
        else:
            self.lines = [executed(self.track.p, part.instruction, line) for line in self.lines]

    def tell(self, x):
        """Queue the value of a register."""
        self.queue.append([line[x + 1] for line in self.lines])

    def erase(self):
        """Clear the register of the next read."""
        self.lines = [cleared(line, self.ahead[self.at][1].instruction[1]) for line in self.lines]

    def choose(self, chosen):
        """Keep only the lines at these indices."""
        self.lines = [self.lines[at] for at in chosen]
        self.queue = [[told[at] for at in chosen] for told in self.queue]

    def forget(self, many):
        """Remove what was written first from the queue."""
        self.queue = self.queue[many:]

    def enter(self):
        """Execute a read behind erase: the input gets a line of its own."""
        place = self.ahead[self.at][1].instruction[1] + 1
        self.lines = self.lines + [unit(self.track.n + 1, place)]
        self.queue = [told + [0] for told in self.queue]
        self.at += 1


class Race:
    """Two programs with as many reads and writes, which go from read to read together.

    The numbers tell to which unknowns the lines belong. A line that is the same sum of other lines on both
    sides is dropped: what is found out for the others holds for it, too.
    """

    def __init__(self, one, other):
        self.p = one.p
        self.n = one.n
        self.reads = one.reads
        self.left = Side(one)
        self.right = Side(other)
        self.numbers = list(range(one.n))
        self.found = None

    def finish(self):
        """Return unknowns that do not change both sides alike, None if there are none."""
        self.proceed_both()
        for turn in range(self.reads):
            if self.found is None:
                self.read_both(turn)
                self.proceed_both()
        return self.found

    def proceed_both(self):
        """Go on to the next read, or to the end, and compare what both sides have written."""
        self.left.proceed()
        self.right.proceed()
        many = min(len(self.left.queue), len(self.right.queue))
        for told, other in zip(self.left.queue[:many], self.right.queue[:many]):
            unlike = [at for at in range(len(told)) if told[at] != other[at]]
            if unlike != []:
                self.remember(unit(len(told), unlike[0]))
        self.left.forget(many)
        self.right.forget(many)

    def read_both(self, turn):
        """Execute the read with this number on both sides."""
        self.left.erase()
        self.right.erase()
        lines = [line + other for line, other in zip(self.left.lines, self.right.lines)]
        # Written as columns, those lines lead that are no sum of lines before them.
        chosen = sorted(echelon(self.p, list(zip(*lines))))
        if len(chosen) < len(lines):
            self.check_others(lines, chosen)
            self.left.choose(chosen)
            self.right.choose(chosen)
            self.numbers = [self.numbers[at] for at in chosen]
        self.left.enter()
        self.right.enter()
        self.numbers.append(self.n + turn)

    def check_others(self, lines, chosen):
        """Find a line that is a sum of the chosen ones in all registers, but not in what only one side has written.

        Such a difference has left the registers of the other side, which can no longer write it.
        """
        for at in range(len(lines)):
            if at not in chosen:
                amounts = weights(self.p, [lines[place] for place in chosen], lines[at])
                for told in self.left.queue + self.right.queue:
                    if dot(self.p, amounts, [told[place] for place in chosen]) != told[at]:
                        self.remember_sum(at, chosen, amounts)

    def remember_sum(self, at, chosen, amounts):
        """Remember the difference between a line and a sum of chosen lines."""
        found = unit(len(self.numbers), at)
        for place, amount in zip(chosen, amounts):
            found[place] = -amount % self.p
        self.remember(found)

    def remember(self, amounts):
        """Remember the unknowns of the sum of the lines with these amounts, unless some were found before."""
        if self.found is None:
            found = [0] * (self.n + self.reads)
            for number, amount in zip(self.numbers, amounts):
                found[number] = amount
            self.found = found
