"""Point 8: forms, state_at and outputs_at."""

import random
import unittest

from leastjournal.forms import forms, outputs_at, state_at
from leastjournal.programs import step_count
from tests.helpers import GREAT, READ, SET, WRITE, frozen, loop, small_programs
from tests.reference import (
    drawn,
    folded,
    great_moments,
    matrix_before,
    played,
    quiet_great_programs,
    reads_of,
    steps_of,
    tiny_programs,
    unit_histories,
)

P = (("copy", 1, 0), ("add", 0, 1, 4), ("read", 0))
L = (("loop", 10 ** 18, (("copy", 2, 1), ("copy", 1, 0), ("set", 0, 0))),)

# Nested four deep, with empty bodies and loops of no rounds at every level.
NEST = (
    loop(0, READ),
    loop(
        GREAT,
        loop(GREAT),
        ("add", 0, 1, 3),
        loop(GREAT - 1, ("swap", 1, 2), loop(0, WRITE), loop(7, ("scale", 2, 2), loop(GREAT, ("add", 1, 0, 1)))),
    ),
    ("set", 2, 4),
)


def value_of(p, form, history):
    """Return what a form says for a history."""
    unknowns = history[0] + history[1]
    assert len(form) == 1 + len(unknowns)
    return (form[0] + sum(weight * unknown for weight, unknown in zip(form[1:], unknowns))) % p


def expected_forms(p, n, program):
    """Return the forms at each moment of a small program, off plain runs of the unit histories."""
    steps = steps_of(program)
    runs = [played(p, program, *history) for history in unit_histories(n, reads_of(steps))]
    found = []
    for moment in range(len(steps) + 1):
        many = 1 + n + reads_of(steps[:moment])
        table = []
        for x in range(n):
            values = [one[moment][0][x] for one in runs[:many]]
            table.append((values[0], *[(value - values[0]) % p for value in values[1:]]))
        found.append(tuple(table))
    return found


class FormsTest(unittest.TestCase):
    def test_example(self):
        self.assertEqual(forms(5, 2, P, 3), ((0, 0, 0, 1), (0, 1, 0, 0)))
        self.assertEqual(forms(moment=3, program=P, n=2, p=5), ((0, 0, 0, 1), (0, 1, 0, 0)))
        self.assertEqual(forms(5, 2, P, 0), ((0, 1, 0), (0, 0, 1)))
        self.assertEqual(forms(5, 2, P, 1), ((0, 1, 0), (0, 1, 0)))
        self.assertEqual(forms(5, 2, P, 2), ((0, 0, 0), (0, 1, 0)))

    def test_each_instruction(self):
        for instruction, expected in (
            (("set", 1, 6), ((0, 1, 0, 0), (6, 0, 0, 0), (0, 0, 0, 1))),
            (("copy", 2, 0), ((0, 1, 0, 0), (0, 0, 1, 0), (0, 1, 0, 0))),
            (("add", 0, 2, 6), ((0, 1, 0, 6), (0, 0, 1, 0), (0, 0, 0, 1))),
            (("scale", 1, 0), ((0, 1, 0, 0), (0, 0, 0, 0), (0, 0, 0, 1))),
            (("scale", 1, 3), ((0, 1, 0, 0), (0, 0, 3, 0), (0, 0, 0, 1))),
            (("swap", 0, 2), ((0, 0, 0, 1), (0, 0, 1, 0), (0, 1, 0, 0))),
            (("read", 1), ((0, 1, 0, 0, 0), (0, 0, 0, 0, 1), (0, 0, 0, 1, 0))),
            (("write", 1), ((0, 1, 0, 0), (0, 0, 1, 0), (0, 0, 0, 1))),
        ):
            self.assertEqual(forms(7, 3, (instruction,), 1), expected, instruction)
            self.assertEqual(forms(7, 3, (loop(1, instruction),), 1), expected, instruction)

    def test_kinds_of_values(self):
        table = forms(5, 2, P, 3)
        self.assertEqual([type(part) for part in (table, *table)], [tuple] * 3)
        self.assertEqual([type(part) for form in table for part in form], [int] * 8)

    def test_each_moment_of_small_programs(self):
        for p, n, program in small_programs(90, 60):
            before = frozen(program)
            for moment, expected in enumerate(expected_forms(p, n, program)):
                self.assertEqual(forms(p, n, program, moment), expected, (p, program, moment))
            self.assertEqual(frozen(program), before)

    def test_drawn_histories(self):
        chance = random.Random(60)
        for p, n, program in small_programs(60, 60):
            steps = steps_of(program)
            registers, inputs = drawn(chance, p, n), drawn(chance, p, reads_of(steps))
            run = played(p, program, registers, inputs)
            for moment in range(len(steps) + 1):
                reads = reads_of(steps[:moment])
                table = forms(p, n, program, moment)
                self.assertEqual([len(form) for form in table], [1 + n + reads] * n)
                values = tuple(value_of(p, form, (registers, inputs[:reads])) for form in table)
                self.assertEqual(values, run[moment][0])

    def test_great_loops_against_matrices(self):
        chance = random.Random(61)
        for p, n, program in (*quiet_great_programs(), (7, 3, NEST), (10007, 3, NEST), (7, 3, L)):
            for moment in great_moments(chance, program):
                matrix = matrix_before(p, n, program, moment)
                self.assertEqual(forms(p, n, program, moment), tuple(tuple(row) for row in matrix[1:]))

    def test_great_loops_by_hand(self):
        for p in (2, 3, 7, 10007):
            many = GREAT ** 4
            program = (loop(GREAT, loop(GREAT, loop(GREAT, loop(GREAT, ("add", 0, 1, 1))))),)
            for moment in (0, 1, 2, GREAT - 1, GREAT, GREAT + 1, GREAT ** 2 + 1, many // 3, many - 1, many):
                self.assertEqual(forms(p, 2, program, moment), ((0, 1, moment % p), (0, 0, 1)))
            program = (loop(GREAT, loop(GREAT, loop(GREAT, loop(GREAT, ("scale", 0, p - 1))))),)
            for moment in (0, 1, GREAT, GREAT + 1, many // 3, many - 1, many):
                self.assertEqual(forms(p, 1, program, moment), ((0, pow(p - 1, moment, p)),))
            program = (loop(GREAT, ("add", 1, 0, 1), ("scale", 0, 2 % p)),)
            for rounds in (1, 2, 17, GREAT // 2, GREAT - 1, GREAT):
                power = pow(2, rounds, p)
                self.assertEqual(forms(p, 2, program, 2 * rounds), ((0, power, 0), (0, (power - 1) % p, 1)))

    def test_constants_of_great_loops(self):
        # r0 counts the rounds, r1 is what r0 was one round before, r2 stays 1.
        program = (("set", 0, 0), ("set", 2, 1), loop(GREAT, ("copy", 1, 0), ("add", 0, 2, 1)))
        for rounds in (1, 2, 3, GREAT // 7, GREAT - 1, GREAT):
            table = forms(7, 3, program, 2 + 2 * rounds)
            self.assertEqual([form[0] for form in table], [rounds % 7, (rounds - 1) % 7, 1])
            self.assertEqual({weight for form in table for weight in form[1:]}, {0})

    def test_reads_around_great_loops(self):
        # Each round takes GREAT times the input into r1, so every input keeps its weight.
        program = (loop(50, ("read", 0), loop(GREAT, ("add", 1, 0, 1)), loop(GREAT, loop(0, READ))),)
        for p in (3, 7, 10007):
            for rounds in (0, 1, 2, 49, 50):
                moment = rounds * (GREAT + 1)
                table = forms(p, 2, program, moment)
                self.assertEqual(table[1], (0, 0, 1) + (GREAT % p,) * rounds)
                self.assertEqual(table[0], (0, 0, 0) + (0,) * (rounds - 1) + (1,) if rounds else (0, 1, 0))
                if rounds < 50:
                    for more in (0, 1, GREAT // 2, GREAT - 1):
                        table = forms(p, 2, program, moment + 1 + more)
                        self.assertEqual(table[1], (0, 0, 1) + (GREAT % p,) * rounds + (more % p,))
                        self.assertEqual(table[0], (0, 0, 0) + (0,) * rounds + (1,))

    def test_as_many_reads_as_allowed(self):
        program = (loop(2000, ("read", 0), ("scale", 1, 2), ("add", 1, 0, 1)),)
        form = forms(10007, 2, program, 6000)[1]
        self.assertEqual(form, (0, 0, pow(2, 2000, 10007), *[pow(2, k, 10007) for k in range(1999, -1, -1)]))
        self.assertEqual(len(forms(10007, 2, program, 2998)[0]), 3 + 1000)

    def test_programs_without_steps(self):
        for program in ((), (loop(0, READ),), (loop(GREAT),), (loop(GREAT, loop(0, READ), loop(GREAT)),)):
            self.assertEqual(forms(5, 2, program, 0), ((0, 1, 0), (0, 0, 1)))


class StateAtTest(unittest.TestCase):
    def check(self, p, program, history, moment, registers, outputs):
        for _ in range(2):
            self.assertEqual(state_at(p, program, *history, moment), registers)
            self.assertEqual(outputs_at(p, program, *history, moment), outputs)

    def test_example(self):
        self.assertEqual(state_at(7, L, (1, 2, 3), (), 4), (0, 1, 1))
        self.assertEqual(state_at(7, L, (1, 2, 3), (), 3 * 10 ** 18), (0, 0, 0))
        self.assertEqual(state_at(moment=4, inputs=(), registers=(1, 2, 3), program=L, p=7), (0, 1, 1))
        self.assertEqual(outputs_at(moment=4, inputs=(), registers=(1, 2, 3), program=L, p=7), ())

    def test_kinds_of_values(self):
        program = (READ, WRITE)
        for answer in (state_at(5, program, (3, 2), (4,), 2), outputs_at(5, program, (3, 2), (4,), 2)):
            self.assertIs(type(answer), tuple)
            self.assertEqual({type(part) for part in answer}, {int})

    def test_each_moment_of_small_programs(self):
        chance = random.Random(62)
        for p, n, program in small_programs(90, 80):
            steps = steps_of(program)
            registers, inputs = drawn(chance, p, n), drawn(chance, p, reads_of(steps) + 2)
            before = frozen((program, registers, inputs))
            for moment, (now, written, _) in enumerate(played(p, program, registers, inputs)):
                reads = reads_of(steps[:moment])
                for many in (reads, reads + 1, len(inputs)):
                    self.check(p, program, (registers, inputs[:many]), moment, now, written)
            self.assertEqual(frozen((program, registers, inputs)), before)

    def test_great_loops_against_matrices(self):
        chance = random.Random(63)
        for p, n, program in (*quiet_great_programs(40, 51), (7, 3, NEST), (10007, 3, NEST)):
            for moment in great_moments(chance, program):
                registers = drawn(chance, p, n)
                matrix = matrix_before(p, n, program, moment)
                expected = tuple(value_of(p, row, (registers, ())) for row in matrix[1:])
                self.check(p, program, (registers, ()), moment, expected, ())

    def test_great_loops_against_short_ones(self):
        """Over two values of two registers, every 84th power behind the first few is the same."""
        chance = random.Random(64)
        for program in tiny_programs(2, 2, 1, 30, 65, 8):
            for k in (GREAT, GREAT - 1, GREAT - 7):
                steps = steps_of(program)
                great = (*program, loop(k, *[one for one in steps if one[0] not in ("read", "write")]), *program)
                short = folded(great, 4, 84)
                registers, inputs = drawn(chance, 2, 2), drawn(chance, 2, 2 * reads_of(steps))
                now, written, _ = played(2, short, registers, inputs)[-1]
                self.check(2, great, (registers, inputs), step_count(great), now, written)

    def test_writes_around_great_loops(self):
        program = (loop(1000, loop(GREAT, ("add", 0, 1, 1)), WRITE, ("read", 1), loop(GREAT)), WRITE)
        inputs = drawn(random.Random(66), 10007, 1000)
        registers, expected = [5, 7], []
        for at in range(1000):
            start = at * (GREAT + 2)
            if at % 97 == 0:
                self.check(10007, program, ((5, 7), inputs), start, tuple(registers), tuple(expected))
            registers[0] = (registers[0] + GREAT * registers[1]) % 10007
            expected.append(registers[0])
            registers[1] = inputs[at]
        end = 1000 * (GREAT + 2)
        self.check(10007, program, ((5, 7), inputs), end, tuple(registers), tuple(expected))
        self.check(10007, program, ((5, 7), inputs), end + 1, tuple(registers), (*expected, registers[0]))

    def test_moments_beside_a_write_and_a_read(self):
        program = (WRITE, ("read", 0), WRITE)
        for moment, inputs, registers, outputs in (
            (0, (), (3,), ()),
            (1, (), (3,), (3,)),
            (2, (4,), (4,), (3,)),
            (3, (4,), (4,), (3, 4)),
        ):
            self.check(5, program, ((3,), inputs), moment, registers, outputs)
            self.check(5, program, ((3,), inputs + (1, 1)), moment, registers, outputs)

    def test_programs_without_steps(self):
        for program in ((), (loop(0, READ),), (loop(GREAT),), (loop(GREAT, loop(0, WRITE), loop(GREAT)),)):
            self.check(5, program, ((3, 2), ()), 0, (3, 2), ())
            self.check(5, program + (SET,), ((3, 2), (1, 2)), 1, (0, 2), ())


if __name__ == "__main__":
    unittest.main()
