"""Points 3 and 6: locate, reads_before and last_assignment."""

import random
import unittest

from leastjournal.errors import BadMoment
from leastjournal.programs import last_assignment, locate, reads_before, step_count
from tests.helpers import GREAT, JUNK, READ, SET, deep_junk, frozen, loop, random_program, small_programs, walk
from tests.reference import length

DOC_LOOP = (("loop", 10 ** 18, (("copy", 2, 1), ("copy", 1, 0), ("set", 0, 0))),)


def step_of(program, path):
    """Return the number of the step that has this path, by sums and products."""
    step = sum(length(part) for part in program[: path[0]])
    if len(path) == 1:
        return step
    body = program[path[0]][2]
    return step + path[1] * sum(length(part) for part in body) + step_of(body, path[2:])


def random_path(chance, program):
    """Return the path of some step of a program that has steps, often next to a border of rounds."""
    index = chance.choice([at for at, part in enumerate(program) if length(part)])
    instruction = program[index]
    if instruction[0] != "loop":
        return (index,)
    rounds = instruction[1]
    turn = chance.choice((0, 1 % rounds, rounds - 1, max(0, rounds - 2), chance.randrange(rounds)))
    return (index, turn) + random_path(chance, instruction[2])


def instruction_of(program, path):
    """Return the instruction that has this path."""
    instruction = program[path[0]]
    return instruction if len(path) == 1 else instruction_of(instruction[2], path[2:])


def great_programs():
    """Return programs with great loops, also of zero rounds and with empty bodies, that have steps."""
    chance = random.Random(30)
    rounds = (0, 1, 2, 3, 7, GREAT - 1, GREAT)
    found = []
    while len(found) < 60:
        program = random_program(chance, 5, 3, 4, 4, rounds)
        if sum(length(part) for part in program):
            found.append(program)
    return found


def assigned(instruction):
    """Return the registers that an instruction other than a loop assigns."""
    if instruction[0] == "write":
        return ()
    return instruction[1:3] if instruction[0] == "swap" else instruction[1:2]


class LocateTest(unittest.TestCase):
    def refused(self, program, step):
        before = frozen((program, step))
        with self.assertRaises(BadMoment) as caught:
            locate(program, step)
        self.assertIs(caught.exception.moment, step)
        self.assertEqual(frozen((program, step)), before)

    def test_examples(self):
        self.assertEqual(step_count(DOC_LOOP), 3000000000000000000)
        self.assertEqual(locate(DOC_LOOP, 4), ((0, 1, 1), ("copy", 1, 0)))
        with self.assertRaises(BadMoment) as caught:
            locate((("set", 0, 1),), 1)
        self.assertEqual(caught.exception.moment, 1)

    def test_against_a_walk(self):
        for _, _, program in small_programs():
            before = frozen(program)
            steps = list(walk(program))
            for step, expected in enumerate(steps):
                self.assertEqual(locate(program, step), expected)
                self.assertEqual(locate(step=step, program=program), expected)
            for step in (-1, len(steps), len(steps) + 1):
                self.refused(program, step)
            self.assertEqual(frozen(program), before)

    def test_kinds_of_values(self):
        path, instruction = locate(DOC_LOOP, 3 * GREAT - 1)
        self.assertIs(type(path), tuple)
        self.assertEqual([type(part) for part in path], [int] * 3)
        self.assertIs(type(instruction), tuple)

    def test_borders_of_great_loops(self):
        self.assertEqual(locate(DOC_LOOP, 0), ((0, 0, 0), ("copy", 2, 1)))
        self.assertEqual(locate(DOC_LOOP, 2), ((0, 0, 2), SET))
        self.assertEqual(locate(DOC_LOOP, 3), ((0, 1, 0), ("copy", 2, 1)))
        self.assertEqual(locate(DOC_LOOP, 3 * GREAT - 1), ((0, GREAT - 1, 2), SET))
        self.assertEqual(locate(DOC_LOOP, 3 * GREAT - 3), ((0, GREAT - 1, 0), ("copy", 2, 1)))
        self.assertEqual(locate(DOC_LOOP, 3 * GREAT - 4), ((0, GREAT - 2, 2), SET))
        self.refused(DOC_LOOP, 3 * GREAT)
        nest = (READ, loop(GREAT, loop(GREAT, SET, loop(GREAT, loop(GREAT, SET), READ))), ("write", 0))
        inner = GREAT * (GREAT + 1) + 1
        last = GREAT * GREAT * inner
        self.assertEqual(locate(nest, 0), ((0,), READ))
        self.assertEqual(locate(nest, 1), ((1, 0, 0, 0, 0), SET))
        self.assertEqual(locate(nest, 2), ((1, 0, 0, 0, 1, 0, 0, 0, 0), SET))
        self.assertEqual(locate(nest, 1 + inner), ((1, 0, 0, 1, 0), SET))
        self.assertEqual(locate(nest, last), ((1, GREAT - 1, 0, GREAT - 1, 1, GREAT - 1, 1), READ))
        self.assertEqual(locate(nest, last - 1), ((1, GREAT - 1, 0, GREAT - 1, 1, GREAT - 1, 0, GREAT - 1, 0), SET))
        self.assertEqual(locate(nest, last + 1), ((2,), ("write", 0)))
        self.refused(nest, last + 2)

    def test_loops_without_steps_are_passed(self):
        program = (loop(GREAT), loop(0, SET), READ, loop(GREAT, loop(0, SET), loop(GREAT), SET), loop(GREAT), READ, loop(3))
        self.assertEqual(locate(program, 0), ((2,), READ))
        self.assertEqual(locate(program, 1), ((3, 0, 2), SET))
        self.assertEqual(locate(program, GREAT), ((3, GREAT - 1, 2), SET))
        self.assertEqual(locate(program, GREAT + 1), ((5,), READ))
        self.refused(program, GREAT + 2)

    def test_paths_of_great_loops(self):
        chance = random.Random(31)
        for program in great_programs():
            for _ in range(25):
                path = random_path(chance, program)
                expected = (path, instruction_of(program, path))
                self.assertEqual(locate(program, step_of(program, path)), expected)
            last = step_count(program) - 1
            for step in {0, last, last // 2, max(0, last - 1), min(1, last)}:
                path, instruction = locate(program, step)
                self.assertEqual(step_of(program, path), step)
                self.assertEqual(instruction_of(program, path), instruction)
            self.refused(program, last + 1)

    def test_any_value_is_refused(self):
        programs = ((), (SET,), (SET, READ, SET), DOC_LOOP, (loop(GREAT),), (loop(0, SET),))
        for program in programs:
            for step in (*JUNK, *deep_junk(), -1, -2, -(10 ** 79), 10 ** 79, step_count(program), 0.0):
                self.refused(program, step)
        for program in ((), (loop(GREAT),), (loop(0, SET),)):
            self.refused(program, 0)


class ReadsBeforeTest(unittest.TestCase):
    def test_against_a_walk(self):
        for _, _, program in small_programs():
            before = frozen(program)
            reads = 0
            self.assertEqual(reads_before(program, 0), 0)
            for step, (_, instruction) in enumerate(walk(program)):
                self.assertEqual(reads_before(program, step), reads)
                reads += instruction[0] == "read"
                answer = reads_before(moment=step + 1, program=program)
                self.assertEqual(answer, reads)
                self.assertIs(type(answer), int)
            self.assertEqual(frozen(program), before)

    def test_empty(self):
        for program in ((), (loop(0, READ),), (loop(GREAT),), (loop(GREAT, loop(0, READ)),)):
            self.assertEqual(reads_before(program, 0), 0)

    def test_great_loops_around_reads(self):
        program = (loop(GREAT, SET), READ, loop(GREAT, SET, SET), loop(2, READ, loop(GREAT, SET), READ), loop(GREAT, SET))
        expected = {
            0: 0,
            1: 0,
            GREAT - 1: 0,
            GREAT: 0,
            GREAT + 1: 1,
            GREAT + 2: 1,
            2 * GREAT: 1,
            3 * GREAT: 1,
            3 * GREAT + 1: 1,
            3 * GREAT + 2: 2,
            3 * GREAT + 3: 2,
            4 * GREAT + 2: 2,
            4 * GREAT + 3: 3,
            4 * GREAT + 4: 4,
            4 * GREAT + 5: 4,
            5 * GREAT + 4: 4,
            5 * GREAT + 5: 5,
            5 * GREAT + 6: 5,
            6 * GREAT + 5: 5,
        }
        self.assertEqual(step_count(program), 6 * GREAT + 5)
        for moment, reads in expected.items():
            self.assertEqual(reads_before(program, moment), reads, moment)

    def test_every_read_of_a_loop_with_great_loops(self):
        program = (loop(1000, loop(GREAT, SET), READ, loop(0, READ), READ, loop(GREAT)), SET)
        turn = GREAT + 2
        for at in (0, 1, 2, 499, 998, 999):
            for more, reads in ((0, 0), (1, 0), (GREAT, 0), (GREAT + 1, 1), (GREAT + 2, 2)):
                self.assertEqual(reads_before(program, at * turn + more), 2 * at + reads)
        self.assertEqual(reads_before(program, 1000 * turn), 2000)
        self.assertEqual(reads_before(program, 1000 * turn + 1), 2000)

    def test_against_located_steps(self):
        for program in great_programs():
            last = step_count(program) - 1
            for step in {0, last, last // 2, last // 3, max(0, last - 1)}:
                reads = locate(program, step)[1][0] == "read"
                self.assertEqual(reads_before(program, step + 1) - reads_before(program, step), reads)


class LastAssignmentTest(unittest.TestCase):
    def test_example(self):
        self.assertEqual(last_assignment(DOC_LOOP, 4, 0), 2)
        self.assertEqual(last_assignment(x=0, moment=4, program=DOC_LOOP), 2)

    def test_each_instruction(self):
        for instruction, registers in (
            (("set", 1, 4), (1,)),
            (("copy", 1, 0), (1,)),
            (("add", 1, 0, 1), (1,)),
            (("scale", 1, 0), (1,)),
            (("scale", 1, 1), (1,)),
            (("read", 1), (1,)),
            (("swap", 1, 0), (0, 1)),
            (("swap", 0, 1), (0, 1)),
            (("write", 1), ()),
        ):
            for x in range(3):
                expected = 0 if x in registers else None
                self.assertIsNone(last_assignment((instruction,), 0, x))
                self.assertEqual(last_assignment((instruction,), 1, x), expected, (instruction, x))
                self.assertEqual(last_assignment((loop(1, instruction),), 1, x), expected)
                later = None if expected is None else GREAT - 1
                self.assertEqual(last_assignment((loop(GREAT, instruction),), GREAT, x), later)

    def test_against_a_walk(self):
        for _, n, program in small_programs():
            before = frozen(program)
            last = [None] * n
            for step, (_, instruction) in enumerate(walk(program)):
                for x in range(n):
                    self.assertEqual(last_assignment(program, step, x), last[x])
                for x in assigned(instruction):
                    last[x] = step
            for x in range(n):
                self.assertEqual(last_assignment(program, step_count(program), x), last[x])
            self.assertEqual(frozen(program), before)

    def test_none(self):
        for program in ((), (loop(GREAT),), (loop(0, SET),), (loop(GREAT, loop(0, SET), loop(5)),)):
            self.assertIsNone(last_assignment(program, 0, 0))
        self.assertIsNone(last_assignment(DOC_LOOP, 0, 2))
        self.assertIsNone(last_assignment((loop(GREAT, SET),), GREAT, 1))

    def test_borders_of_a_great_loop(self):
        for turn in (0, 1, 2, GREAT // 2, GREAT - 1):
            start = 3 * turn
            for x, at in ((2, 0), (1, 1), (0, 2)):
                for more in range(4):
                    step = start + at if more > at else start + at - 3
                    expected = step if step >= 0 else None
                    self.assertEqual(last_assignment(DOC_LOOP, start + more, x), expected, (turn, x, more))

    def test_across_great_loops(self):
        program = (SET, loop(GREAT, ("set", 1, 1)), loop(0, SET), loop(GREAT), ("set", 2, 2), loop(GREAT, ("write", 0)))
        end = 2 * GREAT + 2
        self.assertEqual(step_count(program), end)
        for moment in (1, 2, GREAT, GREAT + 1, GREAT + 2, GREAT + 3, end):
            self.assertEqual(last_assignment(program, moment, 0), 0)
        self.assertIsNone(last_assignment(program, 1, 1))
        self.assertEqual(last_assignment(program, 2, 1), 1)
        self.assertEqual(last_assignment(program, GREAT, 1), GREAT - 1)
        self.assertEqual(last_assignment(program, GREAT + 1, 1), GREAT)
        self.assertEqual(last_assignment(program, end, 1), GREAT)
        self.assertIsNone(last_assignment(program, GREAT + 1, 2))
        self.assertEqual(last_assignment(program, GREAT + 2, 2), GREAT + 1)
        self.assertEqual(last_assignment(program, end - 1, 2), GREAT + 1)
        self.assertIsNone(last_assignment(program, end, 3))

    def test_nested_great_loops(self):
        # A round of the outer loop: set 0, then GREAT times (set 1, write 0), then swap 2 3.
        program = (loop(GREAT, SET, loop(GREAT, ("set", 1, 1), ("write", 0)), ("swap", 2, 3)),)
        turn = 2 * GREAT + 2
        for at in (1, 2, GREAT - 1):
            start = at * turn
            self.assertEqual(last_assignment(program, start, 0), start - turn)
            self.assertEqual(last_assignment(program, start + 1, 0), start)
            self.assertEqual(last_assignment(program, start + 2 * GREAT, 0), start)
            self.assertEqual(last_assignment(program, start, 1), start - 3)
            self.assertEqual(last_assignment(program, start + 1, 1), start - 3)
            self.assertEqual(last_assignment(program, start + 2, 1), start + 1)
            self.assertEqual(last_assignment(program, start + 3, 1), start + 1)
            self.assertEqual(last_assignment(program, start + 4, 1), start + 3)
            self.assertEqual(last_assignment(program, start + turn, 1), start + turn - 3)
            for x in (2, 3):
                self.assertEqual(last_assignment(program, start, x), start - 1)
                self.assertEqual(last_assignment(program, start + turn - 1, x), start - 1)
                self.assertEqual(last_assignment(program, start + turn, x), start + turn - 1)
        self.assertIsNone(last_assignment(program, turn - 1, 2))
        self.assertIsNone(last_assignment(program, 1, 1))

    def test_against_located_steps(self):
        """The answer assigns x; of some steps between it and the moment, none does."""
        chance = random.Random(32)
        for program in great_programs():
            end = step_count(program)
            moments = {0, end, max(0, end - 1)}
            for _ in range(15):
                step = step_of(program, random_path(chance, program))
                moments.update((step, step + 1))
            for moment in moments:
                for x in range(3):
                    self.check_located(chance, program, moment, x)

    def check_located(self, chance, program, moment, x):
        answer = last_assignment(program, moment, x)
        first = 0
        if answer is not None:
            self.assertIn(answer, range(moment))
            self.assertIn(x, assigned(locate(program, answer)[1]))
            first = answer + 1
        between = {*range(first, min(first + 6, moment)), *range(max(first, moment - 12), moment)}
        between.update(chance.randrange(first, moment) for _ in range(6) if first < moment)
        for step in between:
            self.assertNotIn(x, assigned(locate(program, step)[1]))


if __name__ == "__main__":
    unittest.main()
