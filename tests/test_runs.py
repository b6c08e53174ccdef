"""Point 7: run."""

import random
import unittest

from leastjournal.errors import JournalError, TooLong
from leastjournal.runs import run
from tests.helpers import GREAT, READ, SET, WRITE, frozen, loop, random_program, small_programs, walk
from tests.reference import drawn, length, played, reads_of, steps_of

P = (("copy", 1, 0), ("add", 0, 1, 4), ("read", 0))


def inverse_of(p, program):
    """Return the inverse of each instruction, in reverse order."""
    found = []
    for part in reversed(program):
        if part[0] == "loop":
            part = ("loop", part[1], inverse_of(p, part[2]))
        elif part[0] == "add":
            part = ("add", part[1], part[2], p - part[3])
        elif part[0] == "scale":
            part = ("scale", part[1], pow(part[2], -1, p))
        found.append(part)
    return tuple(found)


def invertible(program):
    """Return the program without the instructions that have no inverse."""
    kept = []
    for part in program:
        if part[0] == "loop":
            kept.append(("loop", part[1], invertible(part[2])))
        elif part[0] in ("add", "swap") or (part[0] == "scale" and part[2]):
            kept.append(part)
    return tuple(kept)


def split_loops(chance, program):
    """Return the program with each loop of k + m rounds as one of k followed by one of m."""
    found = []
    for part in program:
        if part[0] == "loop":
            body = split_loops(chance, part[2])
            k = chance.randrange(part[1] + 1)
            found += [("loop", k, body), ("loop", part[1] - k, body)]
        else:
            found.append(part)
    return tuple(found)


class RunTest(unittest.TestCase):
    def too_long(self, program, steps, registers=(1, 2), inputs=()):
        before = frozen((program, registers, inputs))
        with self.assertRaises(TooLong) as caught:
            run(5, program, registers, inputs)
        self.assertEqual(caught.exception.size, steps)
        self.assertIs(type(caught.exception.size), int)
        self.assertIsInstance(caught.exception, JournalError)
        self.assertEqual(frozen((program, registers, inputs)), before)

    def test_example(self):
        self.assertEqual(run(5, P, (3, 2), (4,)), ((4, 3), ()))
        self.assertEqual(run(inputs=(4,), registers=(3, 2), program=P, p=5), ((4, 3), ()))

    def test_each_instruction(self):
        for instruction, registers in (
            (("set", 1, 6), (3, 6, 5)),
            (("set", 0, 0), (0, 4, 5)),
            (("copy", 2, 0), (3, 4, 3)),
            (("copy", 0, 2), (5, 4, 5)),
            (("add", 0, 2, 6), (5, 4, 5)),
            (("add", 2, 1, 1), (3, 4, 2)),
            (("scale", 1, 0), (3, 0, 5)),
            (("scale", 1, 1), (3, 4, 5)),
            (("scale", 2, 3), (3, 4, 1)),
            (("swap", 0, 2), (5, 4, 3)),
            (("swap", 2, 1), (3, 5, 4)),
        ):
            self.assertEqual(run(7, (instruction,), (3, 4, 5), ()), (registers, ()), instruction)
        self.assertEqual(run(7, (("read", 1),), (3, 4, 5), (2,)), ((3, 2, 5), ()))
        self.assertEqual(run(7, (("write", 2), ("write", 0)), (3, 4, 5), ()), ((3, 4, 5), (5, 3)))
        self.assertEqual(run(7, (), (3, 4, 5), ()), ((3, 4, 5), ()))

    def test_inputs_are_read_in_order(self):
        program = (loop(2, ("read", 0), ("write", 0), ("read", 1)), ("write", 1))
        self.assertEqual(run(11, program, (0, 0), (1, 2, 3, 4)), ((3, 4), (1, 3, 4)))

    def test_against_a_plain_execution(self):
        chance = random.Random(40)
        for p, n, program in small_programs(200):
            registers, inputs = drawn(chance, p, n), drawn(chance, p, reads_of(steps_of(program)))
            before = frozen((program, registers, inputs))
            expected = played(p, program, registers, inputs)[-1][:2]
            for _ in range(2):
                self.assertEqual(run(p, program, registers, inputs), expected)
            self.assertEqual(frozen((program, registers, inputs)), before)

    def test_three_loops_deep(self):
        chance = random.Random(41)
        for _ in range(30):
            body = random_program(chance, 10007, 3, 0, 6)
            program = (loop(3, ("add", 0, 1, 2), loop(4, ("write", 0), loop(5, *body), ("swap", 1, 2))), SET)
            registers, inputs = drawn(chance, 10007, 3), drawn(chance, 10007, reads_of(steps_of(program)))
            self.assertEqual(run(10007, program, registers, inputs), played(10007, program, registers, inputs)[-1][:2])

    def test_kinds_of_values(self):
        answer = run(5, (("read", 0), ("write", 0)), (3, 2), (4,))
        self.assertEqual([type(part) for part in (answer, *answer)], [tuple] * 3)
        self.assertEqual([type(part) for part in (*answer[0], *answer[1])], [int] * 3)

    def test_as_many_steps_as_allowed(self):
        add = ("add", 0, 1, 1)
        self.assertEqual(run(7, (loop(20000, add),), (1, 2), ()), (((1 + 20000 * 2) % 7, 2), ()))
        self.assertEqual(run(7, (loop(100, loop(200, add)),), (1, 2), ()), (((1 + 20000 * 2) % 7, 2), ()))
        self.assertEqual(run(7, (loop(19999, add), add), (1, 2), ()), (((1 + 20000 * 2) % 7, 2), ()))
        program = (loop(2000, READ, WRITE, *[add] * 8),)
        inputs = drawn(random.Random(42), 7, 2000)
        self.assertEqual(run(7, program, (1, 2), inputs), (((inputs[-1] + 16) % 7, 2), inputs))

    def test_too_many_steps(self):
        self.too_long((loop(20001, SET),), 20001)
        self.too_long((loop(20000, SET), SET), 20001)
        self.too_long((loop(3, loop(6667, SET)),), 20001)
        self.too_long((loop(2, loop(10000, SET)), loop(GREAT), loop(0, SET), SET), 20001)
        self.too_long((loop(GREAT, SET),), GREAT)
        self.too_long((loop(GREAT, loop(GREAT, loop(GREAT, loop(GREAT, SET)))),), GREAT ** 4)
        self.too_long((READ, loop(GREAT, SET)), GREAT + 1, inputs=(1,))

    def test_rounds_without_steps(self):
        for nothing in (
            loop(GREAT),
            loop(0, SET),
            loop(GREAT, loop(GREAT)),
            loop(GREAT, loop(0, SET)),
            loop(0, loop(GREAT, loop(GREAT, SET))),
            loop(GREAT, loop(GREAT, loop(GREAT, loop(GREAT)))),
            loop(GREAT, loop(0, loop(GREAT, READ)), loop(5)),
        ):
            self.assertEqual(run(5, (nothing,), (1, 2), ()), ((1, 2), ()))
            self.assertEqual(run(5, (("set", 0, 3), nothing, WRITE), (1, 2), ()), ((3, 2), (3,)))
            self.assertEqual(run(5, (loop(3, nothing, ("add", 0, 1, 1)),), (1, 2), ()), ((2, 2), ()))

    def test_a_program_and_its_inverse(self):
        chance = random.Random(43)
        for p, n, program in small_programs(200):
            there = invertible(program)
            registers = drawn(chance, p, n)
            self.assertEqual(run(p, there + inverse_of(p, there), registers, ()), (registers, ()))
        there = (loop(9, ("add", 0, 1, 3), loop(8, ("swap", 1, 2), loop(7, ("scale", 1, 5), ("add", 2, 0, 9)))),)
        self.assertNotEqual(run(10007, there, (1, 2, 3), ())[0], (1, 2, 3))
        self.assertEqual(run(10007, there + inverse_of(10007, there), (1, 2, 3), ()), ((1, 2, 3), ()))

    def test_a_loop_is_two_loops(self):
        chance = random.Random(44)
        for p, n, program in small_programs(200):
            halves = split_loops(chance, program)
            steps = sum(1 for _ in walk(halves))
            self.assertEqual(steps, sum(length(part) for part in program))
            registers, inputs = drawn(chance, p, n), drawn(chance, p, reads_of(steps_of(program)))
            self.assertEqual(run(p, halves, registers, inputs), run(p, program, registers, inputs))


if __name__ == "__main__":
    unittest.main()
