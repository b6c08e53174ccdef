"""Points 4 and 10: resume."""

import itertools
import random
import unittest

from leastjournal.errors import BadState
from leastjournal.losses import loss
from leastjournal.machine import Machine, resume
from leastjournal.programs import reads_before, step_count
from tests.helpers import GREAT, JUNK, READ, SET, WRITE, deep_junk, frozen, loop
from tests.reference import all_histories, drawn, great_moments, quiet_great_programs, reads_of, steps_of, tiny_programs
from tests.test_losses import with_reads
from tests.test_machine import L, P, prepared

STATE = (3, (4, 3), (2,), ())


def changed(p, state):
    """Return states that differ from this one in one part, as integers go."""
    moment, registers, journal, pending = state
    found = [(moment + 1, *state[1:]), (moment - 1, *state[1:])]
    for at, part in enumerate((registers, journal, pending)):
        news = [part[:k] + ((value + 1) % p,) + part[k + 1:] for k, value in enumerate(part)]
        news += [part + (0,), part[1:], part[:-1]]
        found += [state[:at + 1] + (new,) + state[at + 2:] for new in news if new != part]
    return found


class ResumeTest(unittest.TestCase):
    def refused(self, state, p=5, program=P):
        before = frozen((state, program))
        with self.assertRaises(BadState) as caught:
            resume(p, program, state)
        self.assertIs(type(caught.exception), BadState)
        self.assertIs(caught.exception.state, state)
        self.assertEqual(frozen((state, program)), before)

    def test_example(self):
        m = resume(5, P, STATE)
        self.assertIsNone(m.goto(0))
        self.assertEqual((m.registers(), m.journal(), m.pending()), ((3, 2), (), (4,)))
        self.refused((2, (1, 3), (2,), (4,)))
        self.assertEqual(resume(state=STATE, program=P, p=5).snapshot(), STATE)

    def test_each_moment(self):
        for p, n, program, registers, inputs, expected in prepared(60, 30, 110):
            m = Machine(p, program, registers, inputs)
            for moment, (state, outputs) in enumerate(expected):
                m.goto(moment)
                before = frozen((program, state))
                other = resume(p, program, state)
                self.assertIs(type(other), Machine)
                self.assertTrue(other == m)
                self.assertEqual((other.snapshot(), other.outputs()), (state, outputs))
                self.assertEqual(frozen((program, state)), before)

    def test_every_other_moment_from_there(self):
        chance = random.Random(111)
        for p, n, program, registers, inputs, expected in prepared(60, 25, 112):
            end = len(expected) - 1
            for moment in {0, end, chance.randrange(end + 1), chance.randrange(end + 1)}:
                m = resume(p, program, expected[moment][0])
                for x, then in itertools.product(range(n), range(end + 1)):
                    self.assertEqual(m.peek(x, then), expected[then][0][1][x])
                for then in range(moment - 1, -1, -1):
                    m.back()
                    self.assertEqual((m.snapshot(), m.outputs()), expected[then])
                for then in range(1, end + 1):
                    m.step()
                    self.assertEqual((m.snapshot(), m.outputs()), expected[then])
                for then in chance.choices(range(end + 1), k=10):
                    m.goto(then)
                    self.assertEqual((m.snapshot(), m.outputs()), expected[then])

    def test_all_states_of_tiny_programs(self):
        """Exactly the snapshots of all histories are taken, each as its own machine."""
        for p, n, reads in ((2, 1, 2), (2, 2, 1), (3, 1, 1), (3, 2, 0)):
            for program in tiny_programs(p, n, reads, 8, 113 + p + n, 7):
                steps = steps_of(program)
                machines = [Machine(p, program, *one) for one in all_histories(p, n, reads_of(steps))]
                for moment in range(len(steps) + 1):
                    for m in machines:
                        m.goto(moment)
                    owners = {m.snapshot(): m for m in machines}
                    self.assertEqual(len(owners), len(machines))
                    rest = reads_of(steps[moment:])
                    self.check_all(p, program, moment, (n, loss(p, n, program, moment), rest), owners)

    def check_all(self, p, program, moment, lengths, owners):
        """Check each state with parts of these lengths."""
        n, entries, rest = lengths
        for values in itertools.product(range(p), repeat=n + entries + rest):
            state = (moment, values[:n], values[n:n + entries], values[n + entries:])
            if state in owners:
                self.assertTrue(resume(p, program, state) == owners[state])
            else:
                self.refused(state, p, program)

    def test_one_part_changed(self):
        """A changed state is that of another machine, which then shows it, or it is refused."""
        taken = refused = 0
        for p, n, program, registers, inputs, expected in prepared(50, 20, 114):
            own = Machine(p, program, registers, inputs)
            for moment, (state, _) in enumerate(expected):
                own.goto(moment)
                for other in changed(p, state):
                    try:
                        m = resume(p, program, other)
                    except BadState as error:
                        self.assertIs(error.state, other)
                        refused += 1
                    else:
                        self.assertEqual(m.snapshot(), other)
                        self.assertFalse(m == own)
                        m.goto(0)
                        again = Machine(p, program, m.registers(), m.pending())
                        again.goto(other[0])
                        self.assertEqual(again.snapshot(), other)
                        taken += 1
        self.assertGreater(min(taken, refused), 500)

    def test_several_reads_without_a_push(self):
        program = (("set", 0, 0), ("set", 1, 0), ("set", 2, 0), ("read", 2), ("read", 0), ("add", 2, 0, 3), ("read", 1))
        m = Machine(7, program, (4, 5, 6), (1, 2, 3))
        m.goto(7)
        self.assertEqual(m.snapshot(), (7, (2, 3, 0), (4, 5, 6), ()))
        self.assertTrue(resume(7, program, m.snapshot()) == m)
        program += (loop(3, *program),)
        m = Machine(7, program, (4, 5, 6), (1, 2, 3) * 4)
        for moment in range(step_count(program) + 1):
            m.goto(moment)
            self.assertTrue(resume(7, program, m.snapshot()) == m)

    def test_impossible_states(self):
        for state in (
            (0, (4, 3), (2,), ()),
            (0, (3, 2), (), ()),
            (0, (3, 2), (), (4, 4)),
            (0, (3, 2), (1,), (4,)),
            (1, (3, 2), (2,), (4,)),
            (1, (3, 3), (), (4,)),
            (1, (3, 3), (2, 2), (4,)),
            (2, (0, 3), (2,), ()),
            (2, (4, 3), (2,), (4,)),
            (3, (4, 3), (2,), (4,)),
            (3, (4, 3), (), ()),
            (4, (4, 3), (2,), ()),
            (-1, (4, 3), (2,), ()),
            (10 ** 79, (4, 3), (2,), ()),
        ):
            self.refused(state)
        # The last step leaves a constant; the journal would not contradict another one.
        for x in range(5):
            for value in range(5):
                state = (1, (x,), (value,), ())
                if x == 3:
                    self.assertEqual(resume(5, (("set", 0, 3),), state).peek(0, 0), value)
                else:
                    self.refused(state, 5, (("set", 0, 3),))

    def test_kinds_of_numbers(self):
        resume(5, P, (1, (1, 1), (0,), (1,)))
        for state in (
            (True, (1, 1), (0,), (1,)),
            ("1", (1, 1), (0,), (1,)),
            (None, (1, 1), (0,), (1,)),
            ((1,), (1, 1), (0,), (1,)),
            (1, (True, 1), (0,), (1,)),
            (1, (1, True), (0,), (1,)),
            (1, [1, 1], (0,), (1,)),
            (1, "11", (0,), (1,)),
            (1, {1: 1}, (0,), (1,)),
            (1, (1, 6), (0,), (1,)),
            (1, (-4, 1), (0,), (1,)),
            (1, (1, None), (0,), (1,)),
            (1, (1, 1), (False,), (1,)),
            (1, (1, 1), [0], (1,)),
            (1, (1, 1), (5,), (1,)),
            (1, (1, 1), (-5,), (1,)),
            (1, (1, 1), ((0,),), (1,)),
            (1, (1, 1), 0, (1,)),
            (1, (1, 1), (0,), (True,)),
            (1, (1, 1), (0,), [1]),
            (1, (1, 1), (0,), (6,)),
            (1, (1, 1), (0,), ("1",)),
            (1, (1, 1), (0,), None),
            [1, (1, 1), (0,), (1,)],
            (1, (1, 1), (0,)),
            (1, (1, 1), (0,), (1,), ()),
            ((1, (1, 1), (0,), (1,)),),
        ):
            self.refused(state)

    def test_values_of_any_kind(self):
        junk = (*JUNK, *deep_junk(), 0, 3, -1, 10 ** 79)
        for value in junk:
            self.refused(value)
            self.refused((value,) * 4)
            for program in ((), L, (loop(GREAT),)):
                self.refused(value, 7, program)
        for at in range(4):
            for value in junk:
                state = STATE[:at] + (value,) + STATE[at + 1:]
                if state not in (STATE, (3, (4, 3), (0,), ())):
                    self.refused(state)

    def test_programs_that_are_not_valid_for_the_registers(self):
        self.refused((0, (3,), (), (4,)))
        self.refused((0, (), (), (4,)))
        self.refused((0, (0,) * 9, (), (4,)))
        self.refused((0, (1, 1), (), ()), 5, (("copy", 2, 0),))
        self.refused((0, (1, 1), (), ()), 2, (("set", 0, 2),))
        self.refused((0, (1, 1), (), ()), 5, (SET,) * 201)
        self.assertEqual(resume(5, P, (0, (0,) * 8, (), (4,))).now(), 0)
        self.assertEqual(resume(5, (), (0, (1,), (), ())).snapshot(), (0, (1,), (), ()))

    def test_great_loops(self):
        chance = random.Random(115)
        for p, n, program in (*quiet_great_programs(25, 83), *with_reads(25, 84), (7, 3, L)):
            end = step_count(program)
            m = Machine(p, program, drawn(chance, p, n), drawn(chance, p, reads_before(program, end)))
            moments = great_moments(chance, program, 2)
            for moment in chance.sample(moments, min(8, len(moments))):
                m.goto(moment)
                other = resume(p, program, m.snapshot())
                self.assertTrue(other == m)
                for then in (0, end, chance.choice(moments)):
                    m.goto(then)
                    other.goto(then)
                    self.assertEqual((other.snapshot(), other.outputs()), (m.snapshot(), m.outputs()))
                self.check_changes(chance, p, program, m)

    def check_changes(self, chance, p, program, m):
        """Check that a changed state is refused or shown by its machine."""
        states = changed(p, m.snapshot())
        for state in chance.sample(states, min(6, len(states))):
            try:
                other = resume(p, program, state)
            except BadState as error:
                self.assertIs(error.state, state)
            else:
                self.assertEqual(other.snapshot(), state)
                other.goto(0)
                again = Machine(p, program, other.registers(), other.pending())
                again.goto(state[0])
                self.assertEqual(again.snapshot(), state)

    def test_great_loops_by_hand(self):
        end = 3 * GREAT
        self.assertEqual(resume(7, L, (end, (0, 0, 0), (3, 2, 1), ())).peek(1, 0), 2)
        self.refused((end, (0, 0, 1), (3, 2, 1), ()), 7, L)
        self.refused((end, (0, 0, 0), (3, 2), ()), 7, L)
        self.refused((end + 1, (0, 0, 0), (3, 2, 1), ()), 7, L)
        program = (("set", 0, 0), ("set", 1, 1), loop(GREAT, ("add", 0, 1, 1)))
        for rounds in (0, 1, 9, GREAT // 2, GREAT):
            m = resume(7, program, (2 + rounds, (rounds % 7, 1), (4, 6), ()))
            self.assertEqual((m.peek(0, 0), m.peek(1, 0), m.peek(0, 5)), (4, 6, 3))
            self.refused((2 + rounds, ((rounds + 1) % 7, 1), (4, 6), ()), 7, program)

    def test_many_reads(self):
        chance = random.Random(116)
        for program in (
            (loop(2000, READ, ("add", 1, 0, 3)),),
            (loop(1000, READ, ("add", 1, 0, 3), WRITE, loop(GREAT, ("add", 2, 1, 1)), ("read", 1)),),
        ):
            inputs = drawn(chance, 10007, 2000)
            m = Machine(10007, program, (1, 2, 3), inputs)
            end = step_count(program)
            for moment in (end, end - 1, end // 2 + 1):
                m.goto(moment)
                other = resume(10007, program, m.snapshot())
                self.assertTrue(other == m)
                other.goto(0)
                self.assertEqual(other.snapshot(), (0, (1, 2, 3), (), inputs))


if __name__ == "__main__":
    unittest.main()
