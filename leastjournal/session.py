"""A debugger session: a machine that is moved and asked by commands."""

from leastjournal.errors import BadCommand, BadField, BadRegisters
from leastjournal.field import is_prime
from leastjournal.losses import loss
from leastjournal.machine import Machine, fits_registers
from leastjournal.programs import locate
from leastjournal.readable import readable
from leastjournal.reading import number_of, read_program
from leastjournal.showing import show_step


def run_step(machine, numbers):
    """Execute one step."""
    machine.step()
    return told_moment(machine)


def run_back(machine, numbers):
    """Undo the last step."""
    machine.back()
    return told_moment(machine)


def run_goto(machine, numbers):
    """Jump to a moment."""
    machine.goto(numbers[0])
    return told_moment(machine)


def told_moment(machine):
    """Return the answer of a command that moves."""
    return "moment " + str(machine.now())


def run_show(machine, numbers):
    """Tell the registers."""
    return told_values(machine.registers())


def run_journal(machine, numbers):
    """Tell the journal."""
    return told_values(machine.journal())


def run_pending(machine, numbers):
    """Tell the inputs not yet read."""
    return told_values(machine.pending())


def run_outputs(machine, numbers):
    """Tell what was written."""
    return told_values(machine.outputs())


def told_values(values):
    """Return values as a text."""
    return " ".join([str(value) for value in values]) if values != () else "-"


def run_where(machine, numbers):
    """Tell the instruction of the next step."""
    if machine.now() == machine.track.steps:
        return "end"
    path, instruction = locate(machine.program, machine.now())
    return show_step(instruction)


def run_value(machine, numbers):
    """Tell the value of a register at a moment."""
    return str(machine.peek(numbers[0], numbers[1]))


def run_last(machine, numbers):
    """Tell the last step that assigned a register."""
    found = machine.last_assignment(numbers[0])
    return "-" if found is None else str(found)


def run_can(machine, numbers):
    """Tell whether the registers tell the value of a register at a moment."""
    x, moment = numbers
    machine.check_place(x)
    machine.check_moment(moment)
    answer = readable(machine.p, machine.track.n, machine.program, machine.now(), moment, x)
    return "yes" if answer[0] == "sum" else "no"


def run_loss(machine, numbers):
    """Tell the loss."""
    return str(loss(machine.p, machine.track.n, machine.program, machine.now()))


# For each command, by its word and by how many numbers follow it: what executes it.
ACTIONS = {
    ("step", 0): run_step,
    ("back", 0): run_back,
    ("goto", 1): run_goto,
    ("show", 0): run_show,
    ("journal", 0): run_journal,
    ("pending", 0): run_pending,
    ("outputs", 0): run_outputs,
    ("where", 0): run_where,
    ("value", 2): run_value,
    ("last", 1): run_last,
    ("can", 2): run_can,
    ("loss", 0): run_loss,
}


class Session:
    """A machine, made of the text of a program, that understands commands."""

    def __init__(self, p, text, registers, inputs=()):
        # The text can only be read for a valid field and for as many registers as there are.
        if not is_prime(p):
            raise BadField(p)
        if not fits_registers(p, registers):
            raise BadRegisters(registers)
        self.machine = Machine(p, read_program(p, len(registers), text), registers, inputs)

    def run(self, command):
        """Execute one command and return its answer."""
        if not isinstance(command, str):
            raise BadCommand(command)
        words = command.split(" ")
        numbers = [number_of(word) for word in words[1:]]
        form = (words[0], len(numbers))
        if form not in ACTIONS or None in numbers:
            raise BadCommand(command)
        action = ACTIONS[form]
        return action(self.machine, numbers)
