"""What several tests use: junk values, small programs made by a seed, and plain executions of them."""

import random

GREAT = 10 ** 18
SET = ("set", 0, 0)
READ = ("read", 0)
WRITE = ("write", 0)

JUNK = (
    None,
    True,
    False,
    "",
    "0",
    "7",
    "read 0",
    "set",
    "loop",
    (),
    (0,),
    (7,),
    ((),),
    (None,),
    [],
    [0],
    [7],
    [()],
    [("read", 0)],
    {},
    {0: 0},
    {7: 7},
    {"set": ("set", 0, 0)},
    ({"a": [1, (2, None)]}, [True, "x"]),
    [[[[[[[[[[]]]]]]]]]],
)


def loop(rounds, *body):
    """Return a loop with these instructions as its body."""
    return ("loop", rounds, body)


def nested(make, times, core):
    """Return core with make applied to it this many times."""
    value = core
    for _ in range(times):
        value = make(value)
    return value


def deep_junk():
    """Return values of every kind that are nested about twenty deep; none is a program."""
    makers = (
        (lambda value: (value,), 19),
        (lambda value: [value], 19),
        (lambda value: {"a": value}, 19),
        (lambda value: ("loop", 1, value), 19),
        (lambda value: (("loop", 1, value),), 9),
        (lambda value: [("loop", 1, value)], 9),
        (lambda value: ("set", value, 0), 19),
    )
    cores = ((), [], {}, None, True, 0, "read", ("read", 0), (("read", 0),))
    return [nested(make, times, core) for make, times in makers for core in cores]


def walk(program, before=()):
    """Yield (path, instruction) for each step, round by round."""
    for index, instruction in enumerate(program):
        if instruction[0] == "loop":
            for turn in range(instruction[1]):
                yield from walk(instruction[2], before + (index, turn))
        else:
            yield before + (index,), instruction


def random_step(chance, p, n):
    """Return an instruction for p and n other than a loop."""
    x = chance.randrange(n)
    y = (x + chance.randrange(1, n)) % n if n > 1 else x
    choices = [
        ("set", x, chance.randrange(p)),
        ("scale", x, chance.randrange(p)),
        ("read", x),
        ("write", x),
    ]
    if n > 1:
        choices += [("copy", x, y), ("add", x, y, chance.randrange(1, p)), ("swap", x, y)]
    return chance.choice(choices)


def random_program(chance, p, n, levels, longest=4, rounds=(0, 1, 2, 3)):
    """Return a program whose loops are at most levels deep."""
    program = []
    for _ in range(chance.randrange(longest + 1)):
        if levels and chance.randrange(5) < 2:
            body = random_program(chance, p, n, levels - 1, longest, rounds)
            program.append(("loop", chance.choice(rounds), body))
        else:
            program.append(random_step(chance, p, n))
    return tuple(program)


def small_programs(many=120, longest_walk=400):
    """Return (p, n, program) for small programs, the same ones every time."""
    chance = random.Random(20)
    found = [
        (5, 2, ()),
        (5, 2, (("loop", 3, ()),)),
        (5, 2, (("loop", 0, (("read", 0),)), ("set", 1, 2))),
        (5, 2, (("copy", 1, 0), ("add", 0, 1, 4), ("read", 0))),
        (5, 3, (("loop", 4, (("copy", 2, 1), ("copy", 1, 0), ("set", 0, 0))),)),
        (2, 1, (("loop", 2, (("loop", 0, (("set", 0, 1),)), ("write", 0), ("loop", 3, (("read", 0),)))),)),
    ]
    while len(found) < many:
        p = chance.choice((2, 3, 5, 7))
        n = chance.randrange(1, 5)
        program = random_program(chance, p, n, 4)
        if sum(1 for _ in walk(program)) <= longest_walk:
            found.append((p, n, program))
    return found


def frozen(value):
    """Return a text that changes if any part of value changes."""
    return repr(value)


def variants(value):
    """Return values that differ from this one in one part: replaced, left out, repeated, exchanged or wrapped."""
    found = [(value,), [value], None, {0: value}]
    if isinstance(value, tuple):
        found += [list(value), value + (0,), value + ((),), value + value[-1:], dict(enumerate(value))]
        for at, part in enumerate(value):
            before, after = value[:at], value[at + 1:]
            found += [before + after, before + (part, part) + after]
            found += [before + (new,) + after for new in variants(part)]
            if after and after[0] != part:
                found.append(before + (after[0], part) + after[1:])
    elif isinstance(value, int) and not isinstance(value, bool):
        found += [value + 1, value - 1, -value - 1, value + 10 ** 79, str(value), value == 1, value != 1]
    elif isinstance(value, str):
        found += [value.upper(), value + " ", value[1:], ""]
    return found
