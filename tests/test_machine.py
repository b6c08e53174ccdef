"""Points 4 and 10: Machine."""

import random
import unittest

from leastjournal.errors import BadField, BadInputs, BadMoment, BadProgram, BadRegister, BadRegisters, NoStep
from leastjournal.forms import state_at
from leastjournal.losses import loss, pushes, recovery
from leastjournal.machine import Machine
from leastjournal.programs import last_assignment, locate, reads_before, step_count
from tests.helpers import GREAT, JUNK, READ, SET, WRITE, deep_junk, frozen, loop, small_programs
from tests.reference import (
    drawn,
    great_moments,
    matrix_before,
    played,
    pushing_steps,
    quiet_great_programs,
    reads_of,
    steps_of,
    tiny_programs,
)

P = (("copy", 1, 0), ("add", 0, 1, 4), ("read", 0))
L = (("loop", 10 ** 18, (("copy", 2, 1), ("copy", 1, 0), ("set", 0, 0))),)
NOT_INTEGERS = (*JUNK, *deep_junk())


def expected_snapshots(p, n, program, registers, inputs, pushed):
    """Return the snapshots and the outputs of a plain run; pushed are the steps that push."""
    moments = played(p, program, registers, inputs)
    found = []
    for moment, (now, written, rest) in enumerate(moments):
        journal = tuple(moments[step][0][x] for step, x in pushed if step < moment)
        found.append(((moment, now, journal, rest), written))
    return found


def prepared(many=60, longest_walk=40, seed=90):
    """Return (p, n, program, registers, inputs, expected snapshots) for small programs."""
    chance = random.Random(seed)
    found = []
    for p, n, program in small_programs(many, longest_walk):
        steps = steps_of(program)
        registers, inputs = drawn(chance, p, n), drawn(chance, p, reads_of(steps))
        expected = expected_snapshots(p, n, program, registers, inputs, pushes(p, n, program, len(steps)))
        found.append((p, n, program, registers, inputs, expected))
    return found


class MachineCase(unittest.TestCase):
    def check(self, machine, expected):
        """Check everything that a machine shows of its moment."""
        (moment, registers, journal, pending), outputs = expected
        self.assertEqual(machine.snapshot(), expected[0])
        self.assertEqual(machine.now(), moment)
        self.assertEqual(machine.registers(), registers)
        self.assertEqual(machine.journal(), journal)
        self.assertEqual(machine.pending(), pending)
        self.assertEqual(machine.outputs(), outputs)
        self.assertEqual(len(machine), len(journal))

    def refused(self, kind, name, value, call, *values):
        """Check that a call is refused with the very value."""
        before = frozen(value)
        with self.assertRaises(kind) as caught:
            call(*values)
        self.assertIs(type(caught.exception), kind)
        self.assertIs(getattr(caught.exception, name), value)
        self.assertEqual(frozen(value), before)


class MovingTest(MachineCase):
    def test_example(self):
        m = Machine(5, P, (3, 2), (4,))
        self.assertIsNone(m.goto(3))
        self.assertEqual(m.snapshot(), (3, (4, 3), (2,), ()))
        self.assertIsNone(m.back())
        self.assertEqual(m.snapshot(), (2, (0, 3), (2,), (4,)))
        self.assertEqual(m.peek(0, 0), 3)

    def test_names_of_arguments(self):
        m = Machine(inputs=(4,), registers=(3, 2), program=P, p=5)
        m.goto(moment=3)
        self.assertEqual(m.peek(moment=0, x=1), 2)
        self.assertEqual(m.last_assignment(x=0), 2)
        self.assertEqual(Machine(5, (), (1,)).snapshot(), (0, (1,), (), ()))
        self.assertEqual(Machine(5, (SET,), registers=(1,)).pending(), ())

    def test_kinds_of_values(self):
        m = Machine(5, (WRITE, *P), (3, 2), (4,))
        for moment in range(5):
            m.goto(moment)
            for answer in (m.registers(), m.journal(), m.pending(), m.outputs()):
                self.assertIs(type(answer), tuple)
                self.assertEqual({type(part) for part in answer} - {int}, set())
            self.assertEqual([type(part) for part in m.snapshot()], [int, tuple, tuple, tuple])
            self.assertIs(type(m.snapshot()), tuple)
            self.assertIs(type(m.now()), int)
            self.assertIs(type(m.peek(0, 2)), int)
            self.assertIs(type(len(m)), int)

    def test_each_moment_by_step_and_by_back(self):
        for p, _, program, registers, inputs, expected in prepared():
            before = frozen((program, registers, inputs))
            m = Machine(p, program, registers, inputs)
            self.check(m, expected[0])
            for one in expected[1:]:
                self.assertIsNone(m.step())
                self.check(m, one)
            for one in expected[-2::-1]:
                self.assertIsNone(m.back())
                self.check(m, one)
            for one in expected[1:]:
                m.step()
                self.check(m, one)
            self.assertEqual(frozen((program, registers, inputs)), before)

    def test_each_moment_by_goto(self):
        chance = random.Random(91)
        for p, _, program, registers, inputs, expected in prepared():
            m = Machine(p, program, registers, inputs)
            for moment in chance.choices(range(len(expected)), k=2 * len(expected)):
                self.assertIsNone(m.goto(moment))
                self.check(m, expected[moment])
                m.goto(moment)
                self.check(m, expected[moment])
                fresh = Machine(p, program, registers, inputs)
                fresh.goto(moment)
                self.check(fresh, expected[moment])

    def test_drawn_orders_of_calls(self):
        chance = random.Random(92)
        for p, n, program, registers, inputs, expected in prepared(80, 40, 93):
            m, now, end = Machine(p, program, registers, inputs), 0, len(expected) - 1
            for _ in range(60):
                call = chance.choice(("step", "step", "back", "back", "goto", "peek", "last", "no"))
                if call == "step" and now < end:
                    m.step()
                    now += 1
                elif call == "back" and now > 0:
                    m.back()
                    now -= 1
                elif call == "goto":
                    now = chance.randrange(end + 1)
                    m.goto(now)
                elif call == "peek":
                    x, moment = chance.randrange(n), chance.randrange(end + 1)
                    self.assertEqual(m.peek(x, moment), expected[moment][0][1][x])
                elif call == "last":
                    x = chance.randrange(n)
                    self.assertEqual(m.last_assignment(x), last_assignment(program, now, x))
                elif call == "no":
                    self.refused(BadMoment, "moment", -1, m.goto, -1)
                self.check(m, expected[now])

    def test_journal_of_tried_histories(self):
        """The steps that push are found by trying all histories."""
        chance = random.Random(94)
        for p, n, reads in ((2, 2, 3), (2, 3, 2), (3, 2, 2), (5, 2, 1)):
            for program in tiny_programs(p, n, reads, 15, 95 + p + n):
                registers, inputs = drawn(chance, p, n), drawn(chance, p, reads_of(steps_of(program)))
                pushed = pushing_steps(p, n, program)
                m = Machine(p, program, registers, inputs)
                for one in expected_snapshots(p, n, program, registers, inputs, pushed):
                    m.goto(one[0][0])
                    self.check(m, one)
                    self.assertEqual(len(m), loss(p, n, program, one[0][0]))

    def test_registers_and_journal_and_pending_are_enough(self):
        """Undo the run by hand, with nothing but a snapshot and what recovery says."""
        for p, n, program, registers, inputs, expected in prepared(90, 40, 96):
            m = Machine(p, program, registers, inputs)
            m.goto(len(expected) - 1)
            moment, now, journal, rest = m.snapshot()
            now, journal = list(now), list(journal)
            while moment > 0:
                moment -= 1
                instruction = locate(program, moment)[1]
                rest = self.undo(p, instruction, recovery(p, n, program, moment), now, journal, rest)
                self.assertEqual((moment, tuple(now), tuple(journal), rest), expected[moment][0])

    def undo(self, p, instruction, how, now, journal, rest):
        word, x = instruction[0], instruction[1]
        if word == "read":
            rest = (now[x], *rest)
        if how is not None and how[0] == "pop":
            now[x] = journal.pop()
        elif how is not None:
            now[x] = (how[2] + sum(weight * value for weight, value in zip(how[3], now))) % p
        elif word == "add":
            now[x] = (now[x] - instruction[3] * now[instruction[2]]) % p
        elif word == "scale":
            now[x] = now[x] * pow(instruction[2], -1, p) % p
        elif word == "swap":
            now[x], now[instruction[2]] = now[instruction[2]], now[x]
        return rest

    def test_no_step_at_both_ends(self):
        for p, _, program, registers, inputs, expected in prepared(30):
            m = Machine(p, program, registers, inputs)
            for call, moment in ((m.back, 0), (m.step, len(expected) - 1), (m.back, 0)):
                m.goto(moment)
                for _ in range(2):
                    with self.assertRaises(NoStep) as caught:
                        call()
                    self.assertIs(type(caught.exception), NoStep)
                    self.check(m, expected[moment])

    def test_no_step_at_all(self):
        for program in ((), (loop(GREAT),), (loop(0, READ),), (loop(GREAT, loop(0, SET), loop(GREAT)),)):
            m = Machine(5, program, (3, 2))
            self.assertRaises(NoStep, m.step)
            self.assertRaises(NoStep, m.back)
            m.goto(0)
            self.check(m, ((0, (3, 2), (), ()), ()))
            self.refused(BadMoment, "moment", 1, m.goto, 1)

    def test_the_journal_is_as_long_as_the_loss(self):
        for p, n, program, registers, inputs, expected in prepared(40):
            m = Machine(p, program, registers, inputs)
            for moment in range(len(expected)):
                m.goto(moment)
                self.assertEqual(len(m), loss(p, n, program, moment))
                self.assertLessEqual(len(m), n + reads_before(program, moment))

    def test_two_machines_do_not_disturb_each_other(self):
        one, other = Machine(5, P, (3, 2), (4,)), Machine(5, P, (3, 2), (4,))
        one.goto(3)
        self.assertEqual(other.snapshot(), (0, (3, 2), (), (4,)))
        other.step()
        self.assertEqual(one.snapshot(), (3, (4, 3), (2,), ()))

    def test_many_reads_and_writes(self):
        program = (loop(1000, READ, WRITE, ("add", 1, 0, 1), READ), WRITE)
        inputs = drawn(random.Random(97), 10007, 2000)
        m = Machine(10007, program, (1, 2), inputs)
        expected = played(10007, program, (1, 2), inputs)
        for moment in (4001, 4000, 1, 3999, 2000, 2001, 0, 4001):
            m.goto(moment)
            now, written, rest = expected[moment]
            self.assertEqual((m.registers(), m.outputs(), m.pending()), (now, written, rest))
            self.assertEqual(len(m), loss(10007, 2, program, moment))


class PeekTest(MachineCase):
    def test_every_register_and_moment(self):
        for p, n, program, registers, inputs, expected in prepared(40, 25):
            m = Machine(p, program, registers, inputs)
            for now in {0, len(expected) // 2, len(expected) - 1}:
                m.goto(now)
                for moment, one in enumerate(expected):
                    for x in range(n):
                        self.assertEqual(m.peek(x, moment), one[0][1][x])
                self.check(m, expected[now])

    def test_last_assignment(self):
        for p, n, program, registers, inputs, expected in prepared(40, 25):
            m = Machine(p, program, registers, inputs)
            for moment in range(len(expected)):
                m.goto(moment)
                for x in range(n):
                    self.assertEqual(m.last_assignment(x), last_assignment(program, moment, x))
                self.check(m, expected[moment])

    def test_last_assignment_by_hand(self):
        m = Machine(7, L, (1, 2, 3))
        self.assertIsNone(m.last_assignment(0))
        for moment, expected in ((4, (2, 1, 3)), (3 * GREAT, (3 * GREAT - 1, 3 * GREAT - 2, 3 * GREAT - 3))):
            m.goto(moment)
            self.assertEqual(tuple(m.last_assignment(x) for x in range(3)), expected)


class EqualTest(MachineCase):
    def same(self, one, other):
        self.assertIs(one == other, True)
        self.assertIs(other == one, True)
        self.assertIs(one != other, False)

    def unlike(self, one, other):
        self.assertIs(one == other, False)
        self.assertIs(other == one, False)
        self.assertIs(one != other, True)

    def test_equal(self):
        one, other = Machine(5, P, (3, 2), (4,)), Machine(5, tuple(list(P)), (3, 2), (4,))
        self.same(one, one)
        self.same(one, other)
        other.goto(3)
        self.unlike(one, other)
        one.step()
        self.unlike(one, other)
        other.back()
        other.back()
        self.same(one, other)

    def test_each_part_unlike(self):
        program = (("copy", 1, 0), ("set", 0, 1), ("read", 0))
        one = Machine(5, program, (3, 2), (4,))
        for other in (
            Machine(7, program, (3, 2), (4,)),
            Machine(5, (("copy", 1, 0), ("set", 0, 2), ("read", 0)), (3, 2), (4,)),
            Machine(5, (loop(1, *program),), (3, 2), (4,)),
            Machine(5, program, (3, 1), (4,)),
            Machine(5, program, (3, 2, 0), (4,)),
            Machine(5, program, (3, 2), (3,)),
        ):
            for moment in range(4):
                one.goto(moment)
                other.goto(moment)
                self.unlike(one, other)

    def test_equal_registers_with_unlike_pasts(self):
        program = (("set", 0, 1), ("read", 0))
        one, other = Machine(5, program, (3,), (4,)), Machine(5, program, (2,), (4,))
        one.goto(2)
        other.goto(2)
        self.assertEqual(one.registers(), other.registers())
        self.unlike(one, other)

    def test_nothing_else_is_equal(self):
        for m in (Machine(5, P, (3, 2), (4,)), Machine(5, (), (0,))):
            for value in (*JUNK, *deep_junk(), 0, m.snapshot(), m.registers(), Machine, object()):
                self.unlike(m, value)

    def test_comparing_moves_nothing(self):
        one, other = Machine(5, P, (3, 2), (4,)), Machine(5, P, (3, 2), (4,))
        one.goto(2)
        self.unlike(one, other)
        self.assertEqual((one.snapshot(), other.snapshot()), ((2, (0, 3), (2,), (4,)), (0, (3, 2), (), (4,))))


class RefusedTest(MachineCase):
    BAD_FIELDS = (*NOT_INTEGERS, 0, 1, -1, -5, 4, 9, 10001, 10008, 10009, 10 ** 79)
    BAD_REGISTERS = (
        *NOT_INTEGERS[:3],
        "3",
        "",
        (),
        (0,) * 9,
        [3, 2],
        {3: 2},
        (5,),
        (3, 5),
        (-1, 2),
        (3, True),
        (False,),
        (3, None),
        (3, "2"),
        ((3,), (2,)),
        (3, [2]),
        3,
        10 ** 79,
        (3, 10 ** 79),
    )
    BAD_PROGRAMS = (
        *[value for value in NOT_INTEGERS if value != ()],
        list(P),
        P[0],
        (("copy", 2, 0),),
        (("set", 0, 5),),
        (("set", True, 1),),
        (loop(GREAT + 1, SET),),
        (loop(True, SET),),
        (SET,) * 201,
        (loop(1, loop(1, loop(1, loop(1, loop(1, SET))))),),
        (loop(2001, READ),),
        (loop(2001, WRITE),),
        3,
    )
    BAD_INPUTS = (
        *[value for value in NOT_INTEGERS if value != (0,)],
        (),
        (4, 4),
        [4],
        (5,),
        (-1,),
        (True,),
        (None,),
        ("4",),
        ((4,),),
        {4: 4},
        4,
        10 ** 79,
        (10 ** 79,),
    )

    def test_each(self):
        for value in self.BAD_FIELDS:
            self.refused(BadField, "value", value, Machine, value, P, (3, 2), (4,))
        for value in self.BAD_REGISTERS:
            self.refused(BadRegisters, "value", value, Machine, 5, P, value, (4,))
        for value in self.BAD_PROGRAMS:
            self.refused(BadProgram, "value", value, Machine, 5, value, (3, 2), (4,))
            self.refused(BadProgram, "value", value, Machine, 5, value, (3, 2))
        for value in self.BAD_INPUTS:
            self.refused(BadInputs, "value", value, Machine, 5, P, (3, 2), value)

    def test_without_inputs(self):
        with self.assertRaises(BadInputs) as caught:
            Machine(5, P, (3, 2))
        self.assertEqual(caught.exception.value, ())

    def test_several_at_once(self):
        chance = random.Random(98)
        for _ in range(300):
            p, program = chance.choice(self.BAD_FIELDS), chance.choice(self.BAD_PROGRAMS)
            registers, inputs = chance.choice(self.BAD_REGISTERS), chance.choice(self.BAD_INPUTS)
            self.refused(BadField, "value", p, Machine, p, program, registers, inputs)
            self.refused(BadField, "value", p, Machine, p, P, (3, 2), inputs)
            self.refused(BadRegisters, "value", registers, Machine, 5, program, registers, inputs)
            self.refused(BadRegisters, "value", registers, Machine, 5, P, registers, inputs)
            self.refused(BadProgram, "value", program, Machine, 5, program, (3, 2), inputs)

    def test_registers_judge_the_program(self):
        self.refused(BadProgram, "value", P, Machine, 5, P, (3,), (4,))
        self.refused(BadProgram, "value", P, Machine, 3, P, (2, 2), (4,))
        self.refused(BadInputs, "value", (4,), Machine, 5, (), (3,), (4,))
        Machine(2, (), (0,) * 8)
        Machine(10007, (("set", 7, 10006),), (10006,) * 8)

    def test_goto(self):
        m = Machine(5, P, (3, 2), (4,))
        m.goto(2)
        for value in (*NOT_INTEGERS, -1, -2, 4, 5, 10 ** 79, -(10 ** 79), (2,), "2", 2.0):
            self.refused(BadMoment, "moment", value, m.goto, value)
            self.check(m, ((2, (0, 3), (2,), (4,)), ()))
        m = Machine(7, L, (1, 2, 3))
        m.goto(3 * GREAT)
        beyond = 3 * GREAT + 1
        self.refused(BadMoment, "moment", beyond, m.goto, beyond)
        self.assertEqual(m.now(), 3 * GREAT)

    def test_peek(self):
        m = Machine(5, P, (3, 2), (4,))
        m.goto(2)
        for value in (*NOT_INTEGERS, -1, 4, 10 ** 79, -(10 ** 79)):
            self.refused(BadMoment, "moment", value, m.peek, 1, value)
            for x in (*NOT_INTEGERS[:8], -1, 2, 8, 10 ** 79):
                self.refused(BadRegister, "x", x, m.peek, x, value)
        for x in (*NOT_INTEGERS, -1, 2, 8, 10 ** 79, -(10 ** 79)):
            self.refused(BadRegister, "x", x, m.peek, x, 0)
        self.check(m, ((2, (0, 3), (2,), (4,)), ()))

    def test_last_assignment(self):
        m = Machine(5, P, (3, 2), (4,))
        m.goto(2)
        for x in (*NOT_INTEGERS, -1, 2, 8, 10 ** 79, -(10 ** 79)):
            self.refused(BadRegister, "x", x, m.last_assignment, x)
        self.check(m, ((2, (0, 3), (2,), (4,)), ()))


class GreatTest(MachineCase):
    def test_example_loop(self):
        m = Machine(7, L, (1, 2, 3))
        end = 3 * GREAT
        m.goto(end)
        self.check(m, ((end, (0, 0, 0), (3, 2, 1), ()), ()))
        m.back()
        self.check(m, ((end - 1, (0, 0, 0), (3, 2, 1), ()), ()))
        self.assertEqual([m.peek(x, 4) for x in range(3)], [0, 1, 1])
        m.goto(4)
        self.check(m, ((4, (0, 1, 1), (3, 2), ()), ()))
        m.goto(end // 2)
        m.step()
        self.assertEqual(m.now(), end // 2 + 1)

    def test_against_matrices(self):
        chance = random.Random(99)
        for p, n, program in quiet_great_programs(30, 82):
            registers = drawn(chance, p, n)
            m = Machine(p, program, registers)
            whole = pushes(p, n, program, step_count(program))
            values = [self.value(p, n, program, registers, step)[x] for step, x in whole]
            moments = great_moments(chance, program, 3)
            chance.shuffle(moments)
            for moment in moments[:30]:
                now = self.value(p, n, program, registers, moment)
                x = chance.randrange(n)
                self.assertEqual(m.peek(x, moment), now[x])
                m.goto(moment)
                many = sum(step < moment for step, _ in whole)
                self.check(m, ((moment, now, tuple(values[:many]), ()), ()))
                if moment:
                    m.back()
                    many = sum(step < moment - 1 for step, _ in whole)
                    before = self.value(p, n, program, registers, moment - 1)
                    self.check(m, ((moment - 1, before, tuple(values[:many]), ()), ()))
                    m.step()
                    self.assertEqual(m.registers(), now)

    def value(self, p, n, program, registers, moment):
        matrix = matrix_before(p, n, program, moment)
        return tuple(sum(a * b for a, b in zip(row, (1, *registers))) % p for row in matrix[1:])

    def test_reads_and_writes_around_great_loops(self):
        program = (loop(20, READ, loop(GREAT, ("add", 1, 0, 1), loop(GREAT)), ("write", 1), ("copy", 0, 1)),)
        turn = GREAT + 3
        inputs = drawn(random.Random(100), 10007, 20)
        m = Machine(10007, program, (5, 7), inputs)
        m.goto(20 * turn)
        total, written = 7, []
        for value in inputs:
            total = (total + GREAT * value) % 10007
            written.append(total)
        self.assertEqual(m.registers(), (total, total))
        self.assertEqual(m.outputs(), tuple(written))
        self.assertEqual(len(m), loss(10007, 2, program, 20 * turn))
        self.assertEqual(m.journal()[0], 5)
        for at in (19, 3, 0, 11):
            for more in (0, 1, 2, GREAT // 3, GREAT + 1, GREAT + 2, GREAT + 3):
                moment = at * turn + more
                m.goto(moment)
                reads = at + (more > 0)
                self.assertEqual(m.pending(), inputs[reads:])
                self.assertEqual(m.outputs(), tuple(written[:at + (more > GREAT + 1)]))
                self.assertEqual(m.registers(), state_at(10007, program, (5, 7), inputs, moment))
                self.assertEqual(len(m), loss(10007, 2, program, moment))

    def test_nested_four_deep(self):
        add = ("add", 0, 1, 1)
        program = (loop(GREAT, loop(GREAT, loop(GREAT, loop(GREAT, add)))), ("set", 1, 0))
        end = GREAT ** 4 + 1
        m = Machine(10007, program, (1, 2))
        for moment in (end - 1, GREAT ** 3, end // 2, 1, end - 2, 0):
            m.goto(moment)
            self.check(m, ((moment, ((1 + 2 * moment) % 10007, 2), (), ()), ()))
        m.goto(end - 1)
        m.step()
        self.check(m, ((end, ((1 + 2 * (end - 1)) % 10007, 0), (2,), ()), ()))
        self.assertRaises(NoStep, m.step)
        m.back()
        self.assertEqual(len(m), 0)


if __name__ == "__main__":
    unittest.main()
