"""What the tests compare with: plain executions, all histories of small programs, and matrices of great loops."""

import functools
import itertools
import random

from tests.helpers import GREAT, random_program, walk


def execute(p, instruction, registers, inputs, outputs):
    """Execute one instruction on lists: registers are changed, an input is removed, an output appended."""
    word, x = instruction[0], instruction[1]
    if word == "set":
        registers[x] = instruction[2]
    elif word == "copy":
        registers[x] = registers[instruction[2]]
    elif word == "add":
        registers[x] = (registers[x] + instruction[3] * registers[instruction[2]]) % p
    elif word == "scale":
        registers[x] = registers[x] * instruction[2] % p
    elif word == "swap":
        y = instruction[2]
        registers[x], registers[y] = registers[y], registers[x]
    elif word == "read":
        registers[x] = inputs.pop(0)
    elif word == "write":
        outputs.append(registers[x])
    else:
        raise AssertionError(instruction)


def played(p, program, registers, inputs):
    """Return (registers, outputs, pending inputs) at each moment of a small program."""
    now, rest, written = list(registers), list(inputs), []
    moments = [(tuple(now), (), tuple(rest))]
    for _, instruction in walk(program):
        execute(p, instruction, now, rest, written)
        moments.append((tuple(now), tuple(written), tuple(rest)))
    return moments


def steps_of(program):
    """Return the instructions of all steps of a small program."""
    return [instruction for _, instruction in walk(program)]


def reads_of(steps):
    """Return how many of these instructions are reads."""
    return sum(instruction[0] == "read" for instruction in steps)


def overwrites(instruction):
    """Return the register that a step overwrites, None if it overwrites none."""
    word = instruction[0]
    if word in ("set", "copy", "read") or (word == "scale" and instruction[2] == 0):
        return instruction[1]
    return None


def drawn(chance, p, many):
    """Return a tuple of this many field elements."""
    return tuple(chance.randrange(p) for _ in range(many))


def all_histories(p, n, reads):
    """Return every pair (registers, inputs)."""
    every = itertools.product(range(p), repeat=n + reads)
    return [(values[:n], values[n:]) for values in every]


def unit_histories(n, reads):
    """Return the history of zeros, and those with a single 1, in the order of the unknowns."""
    rows = [[0] * (n + reads)] + [[int(k == at) for k in range(n + reads)] for at in range(n + reads)]
    return [(tuple(row[:n]), tuple(row[n:])) for row in rows]


def tiny_programs(p, n, reads, many, seed, longest_walk=14):
    """Return programs with few reads, made by a seed; each has a step."""
    chance = random.Random(seed)
    found = []
    while len(found) < many:
        program = random_program(chance, p, n, 3, 4)
        steps = list(itertools.islice(walk(program), longest_walk + 1))
        if 0 < len(steps) <= longest_walk and reads_of([one for _, one in steps]) <= reads:
            found.append(program)
    return found


def pushing_steps(p, n, program):
    """Return (step, x) for each step before which two histories differ in x and in no other register."""
    found = []
    steps = steps_of(program)
    for step, instruction in enumerate(steps):
        x = overwrites(instruction)
        if x is not None and differ_only_in(p, n, steps[:step], x):
            found.append((step, x))
    return found


def differ_only_in(p, n, steps, x):
    """Whether two histories differ in x, and in no other register, behind these steps."""
    seen = {}
    for registers, inputs in all_histories(p, n, reads_of(steps)):
        now = played(p, tuple(steps), registers, inputs)[-1][0]
        others = now[:x] + now[x + 1:]
        if seen.setdefault(others, now[x]) != now[x]:
            return True
    return False


def identity(many):
    return [[int(a == b) for b in range(many)] for a in range(many)]


def times(p, one, other):
    """Return the product of two matrices: first other, then one."""
    return [[sum(row[k] * other[k][at] for k in range(len(other))) % p for at in range(len(other[0]))] for row in one]


def power(p, matrix, k):
    """Return the k-th power of a matrix by halving k."""
    if k == 0:
        return identity(len(matrix))
    half = power(p, matrix, k // 2)
    square = times(p, half, half)
    return times(p, matrix, square) if k % 2 else square


def step_matrix(p, n, instruction):
    """Return the matrix of an instruction other than loop and read, over (1, r0, r1, ..) as a column."""
    matrix = identity(n + 1)
    word, x = instruction[0], instruction[1] + 1
    if word == "set":
        matrix[x] = [instruction[2]] + [0] * n
    elif word == "copy":
        matrix[x] = identity(n + 1)[instruction[2] + 1]
    elif word == "add":
        matrix[x][instruction[2] + 1] = instruction[3]
    elif word == "scale":
        matrix[x][x] = instruction[2]
    elif word == "swap":
        y = instruction[2] + 1
        matrix[x], matrix[y] = matrix[y], matrix[x]
    elif word != "write":
        raise AssertionError(instruction)
    return matrix


def length(instruction):
    """Return how many steps an instruction executes, by sums and products."""
    if instruction[0] == "loop":
        return instruction[1] * sum(length(part) for part in instruction[2])
    return 1


@functools.lru_cache(maxsize=None)
def loop_matrix(p, n, body, rounds):
    """Return the matrix of this many rounds of a body without reads."""
    return power(p, matrix_before(p, n, body, sum(length(inner) for inner in body)), rounds)


def matrix_before(p, n, program, moment):
    """Return the matrix of what is executed before a moment of a program without reads."""
    matrix = identity(n + 1)
    for part in program:
        many = min(moment, length(part))
        moment -= many
        if part[0] != "loop":
            matrix = times(p, step_matrix(p, n, part), matrix) if many else matrix
        elif many:
            once = sum(length(inner) for inner in part[2])
            rounds = loop_matrix(p, n, part[2], many // once)
            rest = matrix_before(p, n, part[2], many % once)
            matrix = times(p, rest, times(p, rounds, matrix))
    return matrix


def great_moments(chance, program, many=6):
    """Return moments of a program: both ends, borders of rounds and what is next to them, and drawn ones."""
    end = sum(length(part) for part in program)
    found = {0, end, end // 2}
    start = 0
    for part in program:
        found.update((start - 1, start, start + 1))
        if part[0] == "loop" and length(part):
            once = sum(length(inner) for inner in part[2])
            for turn in (1, 2, 3, 9, part[1] // 2, part[1] - 1, part[1] - 2, chance.randrange(part[1])):
                found.update((start + turn * once + more for more in (-1, 0, 1, once // 2)))
        start += length(part)
    found.update(chance.randrange(end + 1) for _ in range(many))
    return sorted(moment for moment in found if 0 <= moment <= end)


def without(program, words):
    """Return the program without the instructions that have one of these words, in loops too."""
    kept = []
    for part in program:
        if part[0] == "loop":
            kept.append(("loop", part[1], without(part[2], words)))
        elif part[0] not in words:
            kept.append(part)
    return tuple(kept)


def quiet_great_programs(many=40, seed=50):
    """Return (p, n, program) with great loops, without reads and writes; each has many steps."""
    chance = random.Random(seed)
    rounds = (0, 1, 2, 5, GREAT - 1, GREAT)
    found = []
    while len(found) < many:
        p = chance.choice((2, 3, 5, 7, 10007))
        n = chance.randrange(1, 5)
        program = without(random_program(chance, p, n, 4, 4, rounds), ("read", "write"))
        if sum(length(part) for part in program) > GREAT // 2:
            found.append((p, n, program))
    return found


def folded(program, least, period):
    """Return the program with great loops shortened: the rounds stay the same modulo period, and at least least."""
    parts = []
    for part in program:
        if part[0] == "loop":
            k = part[1]
            k = k if k < least + period else least + (k - least) % period
            part = ("loop", k, folded(part[2], least, period))
        parts.append(part)
    return tuple(parts)


def is_quiet(part, words=("read", "write")):
    """Whether an instruction executes no step with one of these words."""
    if part[0] == "loop":
        return part[1] == 0 or all(is_quiet(inner, words) for inner in part[2])
    return part[0] not in words


def great_pieces(program, moment):
    """Yield what is executed before a moment: instructions, and (rounds, body) for rounds without reads and writes."""
    for part in program:
        many = min(moment, length(part))
        moment -= many
        if many and part[0] != "loop":
            yield part
        elif many:
            once = sum(length(inner) for inner in part[2])
            if is_quiet(part):
                yield many // once, part[2]
                yield from great_pieces(part[2], many % once)
            else:
                for turn in range(-(-many // once)):
                    yield from great_pieces(part[2], min(once, many - turn * once))


def great_run(p, program, registers, inputs, moment=None):
    """Return (registers, outputs, inputs not read) at a moment, at the end if none is given, by powers of matrices."""
    n = len(registers)
    now, rest, written = list(registers), list(inputs), []
    end = sum(length(part) for part in program)
    for piece in great_pieces(program, end if moment is None else moment):
        if isinstance(piece[0], str):
            execute(p, piece, now, rest, written)
        else:
            matrix = loop_matrix(p, n, piece[1], piece[0])
            now = [sum(a * b for a, b in zip(row, (1, *now))) % p for row in matrix[1:]]
    return tuple(now), tuple(written), tuple(rest)


def great_forms(p, n, program, moment, reads):
    """Return the forms of all registers at a moment, with the numbers of this many inputs, by powers of matrices."""
    one = [1] + [0] * (n + reads)
    rows = identity(1 + n + reads)[1:n + 1]
    taken = 0
    for piece in great_pieces(program, moment):
        if piece[0] == "read":
            rows[piece[1]] = identity(1 + n + reads)[1 + n + taken]
            taken += 1
            continue
        quiet = isinstance(piece[0], str)
        matrix = step_matrix(p, n, piece) if quiet else loop_matrix(p, n, piece[1], piece[0])
        rows = times(p, matrix[1:], [one, *rows])
    return rows
