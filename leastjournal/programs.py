"""Programs: which values are programs, and what they execute.

Everything here is found by formulas over the instructions; no round of a loop is executed.
"""

from leastjournal.errors import BadMoment
from leastjournal.field import is_between

MAX_SIZE = 200
MAX_DEPTH = 4
MAX_READS = 2000
MAX_WRITES = 2000
MAX_ROUNDS = 10 ** 18

# For each word but loop: how many registers follow it, and the least field
# element that may follow these (None if no field element does).
SHAPES = {
    "set": (1, 0),
    "copy": (2, None),
    "add": (2, 1),
    "scale": (1, 0),
    "swap": (2, None),
    "read": (1, None),
    "write": (1, None),
}


def is_program(p, n, value):
    """Whether any value is a program for p and n that keeps to the limits."""
    return (
        is_body(p, n, value, MAX_DEPTH)
        and size(value) <= MAX_SIZE
        and read_count(value) <= MAX_READS
        and write_count(value) <= MAX_WRITES
    )


def is_body(p, n, value, levels):
    """Whether any value is a tuple of instructions with loops at most levels deep."""
    return isinstance(value, tuple) and all([is_instruction(p, n, part, levels) for part in value])


def is_instruction(p, n, value, levels):
    """Whether any value is an instruction, if it is a loop one at most levels deep."""
    if not isinstance(value, tuple) or value == () or not isinstance(value[0], str):
        return False
    if value[0] == "loop":
        return is_loop(p, n, value, levels)
    return value[0] in SHAPES and has_shape(p, n, SHAPES[value[0]], value[1:])


def is_loop(p, n, value, levels):
    """Whether a tuple that begins with the word loop is a loop at most levels deep."""
    return (
        levels > 0
        and len(value) == 3
        and is_between(value[1], 0, MAX_ROUNDS)
        and is_body(p, n, value[2], levels - 1)
    )


def has_shape(p, n, shape, parts):
    """Whether the parts behind the word of an instruction are as its shape requires."""
    many, least = shape
    if least is None:
        return len(parts) == many and are_registers(n, parts)
    return (
        len(parts) == many + 1
        and are_registers(n, parts[:many])
        and is_between(parts[many], least, p - 1)
    )


def are_registers(n, parts):
    """Whether one or two parts are registers, unlike if they are two."""
    if not all([is_between(part, 0, n - 1) for part in parts]):
        return False
    return len(parts) == 1 or parts[0] != parts[1]


def size(program):
    """Return how many instructions the program has in all."""
    total = len(program)
    for instruction in program:
        if instruction[0] == "loop":
            total += size(instruction[2])
    return total


def depth(program):
    """Return how deep the loops of the program are nested, 0 without loops."""
    deepest = 0
    for instruction in program:
        if instruction[0] == "loop":
            deepest = max(deepest, 1 + depth(instruction[2]))
    return deepest


def step_count(program):
    """Return how many steps the program executes."""
    return sum([length(instruction) for instruction in program])


def length(instruction):
    """Return how many steps an instruction executes."""
    if instruction[0] == "loop":
        return instruction[1] * step_count(instruction[2])
    return 1


def read_count(program):
    """Return how many reads the program executes."""
    return word_count(program, "read")


def write_count(program):
    """Return how many writes the program executes."""
    return word_count(program, "write")


def word_count(program, word):
    """Return how many steps the program executes that have this word."""
    total = 0
    for instruction in program:
        if instruction[0] == "loop":
            total += instruction[1] * word_count(instruction[2], word)
        elif instruction[0] == word:
            total += 1
    return total


def locate(program, step):
    """Return the path and the instruction of a step."""
    if not is_between(step, 0, step_count(program) - 1):
        raise BadMoment(step)
    index, rest = place(program, step)
    path = [index]
    instruction = program[index]
    while instruction[0] == "loop":
        body = instruction[2]
        turn, rest = divmod(rest, step_count(body))
        index, rest = place(body, rest)
        path.extend([turn, index])
        instruction = body[index]
    return tuple(path), instruction


def place(program, step):
    """Return the index of the instruction that executes a step, and the number of the step within it."""
    index = 0
    rest = step
    while rest >= length(program[index]):
        rest -= length(program[index])
        index += 1
    return index, rest


def reads_before(program, moment):
    """Return how many reads are executed before a moment."""
    total = 0
    rest = moment
    for instruction in program:
        if rest < length(instruction):
            return total + reads_within(instruction, rest)
        total += read_count((instruction,))
        rest -= length(instruction)
    return total


def reads_within(instruction, moment):
    """Return how many reads an instruction executes before a moment of it that is not its end."""
    if instruction[0] != "loop":
        return 0
    body = instruction[2]
    turns, rest = divmod(moment, step_count(body))
    return turns * read_count(body) + reads_before(body, rest)


def last_assignment(program, moment, x):
    """Return the greatest step below moment that assigns register x, None if there is none."""
    found = None
    start = 0
    for instruction in program:
        if start >= moment:
            break
        steps = length(instruction)
        last = last_within(instruction, min(steps, moment - start), x)
        if last is not None:
            found = start + last
        start += steps
    return found


def last_within(instruction, moment, x):
    """Return the greatest step of an instruction below a moment of it that assigns x, None if there is none."""
    # A loop that executes no steps has no length of a round to divide by.
    if moment == 0:
        return None
    if instruction[0] != "loop":
        return 0 if assigns(instruction, x) else None
    body = instruction[2]
    steps = step_count(body)
    turns, rest = divmod(moment, steps)
    last = last_assignment(body, rest, x)
    if last is not None:
        return turns * steps + last
    if turns == 0:
        return None
    last = last_assignment(body, steps, x)
    return None if last is None else (turns - 1) * steps + last


def assigns(instruction, x):
    """Whether an instruction other than a loop assigns register x."""
    if instruction[0] == "write":
        return False
    if instruction[0] == "swap":
        return x in instruction[1:]
    return instruction[1] == x
