"""A machine that goes forward and backward through the run of a program."""

from leastjournal.errors import (
    BadField,
    BadInputs,
    BadMoment,
    BadProgram,
    BadRegister,
    BadRegisters,
    BadState,
    NoStep,
)
from leastjournal.field import are_cells, is_between, is_prime
from leastjournal.flows import Flow
from leastjournal.forms import runner_at
from leastjournal.histories import history_of
from leastjournal.programs import is_program, last_assignment, read_count, reads_before, step_count
from leastjournal.tracks import Track

MAX_REGISTERS = 8


class Machine:
    """A program, a history, and the present moment.

    The journal up to a moment begins with that of every earlier moment. So the flow, which finds out what
    is pushed, stays at the latest moment that was visited, and going back only shortens the journal.
    """

    def __init__(self, p, program, registers, inputs=()):
        if not is_prime(p):
            raise BadField(p)
        if not fits_registers(p, registers):
            raise BadRegisters(registers)
        if not is_program(p, len(registers), program):
            raise BadProgram(program)
        if not are_cells(p, inputs) or len(inputs) != read_count(program):
            raise BadInputs(inputs)
        self.p = p
        self.program = program
        self.first = registers
        self.given = inputs
        self.track = Track(p, len(registers), program)
        self.flow = Flow(self.track, registers, inputs)
        self.moment = 0
        self.cells = registers
        self.entries = ()

    def __len__(self):
        return len(self.entries)

    def __eq__(self, other):
        return (
            isinstance(other, Machine)
            and self.p == other.p
            and self.program == other.program
            and self.first == other.first
            and self.given == other.given
            and self.moment == other.moment
        )

    def now(self):
        """Return the present moment."""
        return self.moment

    def registers(self):
        """Return the registers."""
        return self.cells

    def journal(self):
        """Return the values that were pushed by the steps before this moment, the first one first."""
        return self.entries

    def pending(self):
        """Return the inputs not yet read, the next one first."""
        return self.given[reads_before(self.program, self.moment):]

    def outputs(self):
        """Return what was written before this moment."""
        return tuple(runner_at(self.track, self.first, self.given, self.moment).written)

    def snapshot(self):
        """Return the moment, the registers, the journal and the pending inputs."""
        return self.moment, self.cells, self.entries, self.pending()

    def step(self):
        """Execute one step."""
        if self.moment == self.track.steps:
            raise NoStep()
        self.move(self.moment + 1)

    def back(self):
        """Undo the last step."""
        if self.moment == 0:
            raise NoStep()
        self.move(self.moment - 1)

    def goto(self, moment):
        """Jump to a moment."""
        self.check_moment(moment)
        self.move(moment)

    def peek(self, x, moment):
        """Return the value of a register at a moment; the machine does not move."""
        self.check_place(x)
        self.check_moment(moment)
        return self.cells_at(moment)[x]

    def last_assignment(self, x):
        """Return the last step before this moment that assigns a register, None if there is none."""
        self.check_place(x)
        return last_assignment(self.program, self.moment, x)

    def move(self, moment):
        """Be at a moment of the program."""
        if moment > self.flow.moment:
            self.flow.advance(moment)
        pushed = len([step for step, x in self.flow.pushed if step < moment])
        self.moment = moment
        self.cells = self.cells_at(moment)
        self.entries = tuple(self.flow.saved[:pushed])

    def cells_at(self, moment):
        """Return the registers at a moment of the program."""
        # Stepping on is quick, since the flow is mostly where the machine is.
        if moment == self.flow.moment:
            return tuple(self.flow.runner.row[1:])
        return tuple(runner_at(self.track, self.first, self.given, moment).row[1:])

    def check_moment(self, moment):
        """Refuse any value that is not a moment of the program."""
        if not is_between(moment, 0, self.track.steps):
            raise BadMoment(moment)

    def check_place(self, x):
        """Refuse any value that is not the number of a register."""
        if not is_between(x, 0, self.track.n - 1):
            raise BadRegister(x)


def resume(p, program, state):
    """Return the machine whose snapshot this state is."""
    if not is_state(p, program, state):
        raise BadState(state)
    moment, registers, journal, pending = state
    track = Track(p, len(registers), program)
    history = history_of(track, program, moment, registers, journal)
    if history is None:
        raise BadState(state)
    machine = Machine(p, program, history[0], history[1] + pending)
    machine.goto(moment)
    return machine


def is_state(p, program, value):
    """Whether any value has the form of a snapshot; the journal may be too long or too short."""
    if not isinstance(value, tuple) or len(value) != 4:
        return False
    moment, registers, journal, pending = value
    return (
        fits_registers(p, registers)
        and is_program(p, len(registers), program)
        and is_between(moment, 0, step_count(program))
        and are_cells(p, journal)
        and are_cells(p, pending)
        and reads_before(program, moment) + len(pending) == read_count(program)
    )


def fits_registers(p, value):
    """Whether any value is a tuple of 1 to 8 field elements."""
    return are_cells(p, value) and 1 <= len(value) <= MAX_REGISTERS
