"""The program that undoes a program, with what the journal holds as its inputs.

Rows span all registers that can occur at a moment: they are rows of values, with 1 before the registers, and
of differences, with 0 there, so that a constant is a weight like any other. A function that undoes a stretch
is given the rows at its beginning, and returns the instructions and the rows behind the stretch.
"""

from leastjournal.errors import TooDeep, TooLong
from leastjournal.field import echelon, inverse, rank, weights
from leastjournal.programs import depth, size
from leastjournal.steps import cleared, executed, overwritten, unit
from leastjournal.tracks import Track, units

MAX_SIZE = 40
MAX_DEPTH = 2


def backward(p, n, program):
    """Return a program that leads from the registers and the journal at the end back to the beginning."""
    if size(program) > MAX_SIZE:
        raise TooLong(size(program))
    if depth(program) > MAX_DEPTH:
        raise TooDeep(depth(program))
    back, rows = undone(Track(p, n, silent(program)), units(n))
    return back


def silent(program):
    """Return the program without its writes, which change nothing that must be undone."""
    kept = []
    for instruction in program:
        if instruction[0] == "loop":
            kept.append(("loop", instruction[1], silent(instruction[2])))
        elif instruction[0] != "write":
            kept.append(instruction)
    return tuple(kept)


def undone(track, rows):
    """Undo a program or the body of a loop."""
    groups = []
    here = rows
    for part in track.parts:
        if part.steps > 0:
            group, here = undone_part(part, here)
            groups.append(group)
    return last_first(groups), here


def undone_part(part, rows):
    """Undo an instruction that executes steps."""
    if part.body is None:
        return undone_step(part.p, part.instruction, rows)
    if part.body.loud:
        return undone_reading_loop(part, rows)
    return undone_quiet_loop(part, rows)


def last_first(groups):
    """Return the instructions of all groups, those of the last group first."""
    found = []
    for group in reversed(groups):
        found.extend(group)
    return tuple(found)


def undone_step(p, instruction, rows):
    """Undo a step."""
    x = overwritten(instruction)
    if x is None:
        return (inverted(p, instruction),), [executed(p, instruction, row) for row in rows]
    back = restored(p, rows, x)
    if instruction[0] == "read":
        after = [cleared(row, x) for row in rows] + [unit(len(rows[0]), x + 1)]
        return (("write", x), *back), spanning(p, after)
    return back, spanning(p, [executed(p, instruction, row) for row in rows])


def inverted(p, instruction):
    """Return the instruction that undoes one that overwrites nothing."""
    word = instruction[0]
    if word == "add":
        return ("add", instruction[1], instruction[2], p - instruction[3])
    if word == "scale":
        return ("scale", instruction[1], inverse(p, instruction[2]))
    return instruction


def restored(p, rows, x):
    """Return instructions that give register x its value in each of the rows: from the others, or from the journal."""
    columns = [[row[place] for row in rows] for place in range(len(rows[0]))]
    wanted = columns[x + 1]
    columns[x + 1] = [0] * len(rows)
    found = weights(p, columns, wanted)
    if found is None:
        return (("read", x),)
    adds = [("add", x, y, weight) for y, weight in enumerate(found[1:]) if weight != 0]
    return (("set", x, found[0]), *adds)


def spanning(p, rows):
    """Return independent rows with the same span."""
    return list(echelon(p, rows).values())


def undone_quiet_loop(part, rows):
    """Undo a loop without reads."""
    rounds = part.instruction[1]
    late, lasting = settled(part)
    early = min(rounds, late)
    groups = []
    here = rows
    for turn in range(early):
        group, here = undone(part.body, here)
        groups.append(group)
    if rounds > early:
        # The registers of every further round are in the span of the lasting rows, and none of
        # these is lost in a round: what is right for them is right in every further round.
        group, after = undone(part.body, lasting)
        groups.append(repeated(rounds - early, group))
        here = spanning(part.p, [part.after(rounds - early, row) for row in here])
    return last_first(groups), here


def settled(part):
    """Return behind how many rounds no further round loses anything, whatever the registers were, and what is left.

    These are at most as many rounds as there are registers, for a round never loses the 1 before them.
    """
    rounds = 0
    here = units(part.n)
    after = spanning(part.p, [part.after(1, row) for row in here])
    while len(after) < len(here):
        rounds += 1
        here = after
        after = spanning(part.p, [part.after(1, row) for row in here])
    return rounds, here


def undone_reading_loop(part, rows):
    """Undo a loop with reads, each round on its own until two rounds begin alike."""
    groups = []
    here = rows
    rest = part.instruction[1]
    while rest > 0:
        group, after = undone(part.body, here)
        if alike(part.p, here, after):
            groups.append(repeated(rest, group))
            rest = 0
        else:
            groups.append(group)
            rest -= 1
        here = after
    return last_first(groups), here


def alike(p, one, other):
    """Whether two lists of independent rows have the same span."""
    return len(one) == len(other) == rank(p, one + other)


def repeated(rounds, body):
    """Return the body as a loop, if it needs one."""
    if rounds == 1:
        return body
    return (("loop", rounds, body),)
