"""Plain runs: one history, executed forward."""

from leastjournal.errors import TooLong
from leastjournal.programs import length, step_count
from leastjournal.steps import executed

MAX_STEPS = 20000


class Runner:
    """The registers of one history, and what was read and written on the way."""

    def __init__(self, p, registers, inputs):
        self.p = p
        self.row = [1, *registers]
        self.given = inputs
        self.taken = 0
        self.written = []

    def perform(self, instruction):
        """Execute an instruction other than a loop."""
        place = instruction[1] + 1
        if instruction[0] == "read":
            self.row[place] = self.given[self.taken]
            self.taken += 1
        elif instruction[0] == "write":
            self.written.append(self.row[place])
        else:
            self.row = executed(self.p, instruction, self.row)

    def leap(self, part, rounds):
        """Execute this many rounds of a loop without reads and writes."""
        self.row = part.after(rounds, self.row)


def run(p, program, registers, inputs):
    """Execute the program step by step; return the registers and the outputs."""
    steps = step_count(program)
    if steps > MAX_STEPS:
        raise TooLong(steps)
    runner = Runner(p, registers, inputs)
    for instruction in unrolled(program):
        runner.perform(instruction)
    return tuple(runner.row[1:]), tuple(runner.written)


def unrolled(program):
    """Return the instructions of all steps, in their order."""
    steps = []
    for instruction in program:
        if instruction[0] != "loop":
            steps.append(instruction)
        elif length(instruction) > 0:
            # Without this test a loop of no rounds would unroll its body, which may be great.
            steps.extend(unrolled(instruction[2]) * instruction[1])
    return steps
