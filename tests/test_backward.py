"""Points 2, 4 and 13: backward."""

import itertools
import random
import unittest

from leastjournal.backward import backward
from leastjournal.errors import TooDeep, TooLong
from leastjournal.losses import loss
from leastjournal.machine import Machine
from leastjournal.programs import depth, read_count, size, step_count, write_count
from leastjournal.runs import run
from tests.helpers import GREAT, READ, SET, WRITE, frozen, loop, random_step
from tests.reference import all_histories, drawn, great_run, length, played, pushing_steps, tiny_programs

P = (("copy", 1, 0), ("add", 0, 1, 4), ("read", 0))
L = (("loop", 10 ** 18, (("copy", 2, 1), ("copy", 1, 0), ("set", 0, 0))),)

# The note of point 13, from registers that are set before.
COUNTER = (("set", 0, 0), loop(GREAT, ("copy", 1, 0), ("set", 2, 1), ("add", 0, 2, 1)))


def loops_of(program, level=1):
    """Yield (level, rounds) of each loop."""
    for part in program:
        if part[0] == "loop":
            yield level, part[1]
            yield from loops_of(part[2], level + 1)


def reads_in_loops(program, inside=False):
    """Whether a loop contains a read."""
    return any(
        reads_in_loops(part[2], True) if part[0] == "loop" else inside and part[0] == "read" for part in program
    )


def two_deep(chance, p, n, rounds, words=()):
    """Return a program of at most 40 instructions with loops up to two deep, without these words in its loops."""
    def body(level, longest):
        found = []
        for _ in range(chance.randrange(1, longest + 1)):
            if level and chance.randrange(4) == 0:
                found.append(("loop", chance.choice(rounds), body(level - 1, 4)))
            else:
                step = random_step(chance, p, n)
                if level == 2 or step[0] not in words:
                    found.append(step)
        return tuple(found)

    while True:
        program = body(2, 7)
        if size(program) <= 40:
            return program


def few_steps(program):
    return sum(length(part) for part in program) <= 3000


class BackwardCase(unittest.TestCase):
    def made(self, p, n, program):
        """Return the backward program, with its shape checked."""
        before = frozen(program)
        back = backward(p, n, program)
        self.assertEqual(frozen(program), before)
        self.assertEqual(backward(p, n, program), back)
        self.check_instructions(p, n, back)
        rounds = {1: [], 2: []}
        for level, many in loops_of(program):
            rounds[level].append(many)
        for level, many in loops_of(back):
            allowed = rounds[2] if level == 2 else rounds[1] + rounds[2]
            self.assertLessEqual(many, max(allowed))
        self.assertLessEqual(depth(back), depth(program))
        if not reads_in_loops(program):
            self.assertLessEqual(size(back), 2 * (n + 1) ** 3 * size(program))
        return back

    def check_instructions(self, p, n, program):
        """Check that each instruction is one of point 3; the limits of whole programs do not count."""
        self.assertIs(type(program), tuple)
        for part in program:
            self.assertIs(type(part), tuple)
            word, *numbers = part
            if word == "loop":
                self.assertEqual(len(part), 3)
                self.assertTrue(type(part[1]) is int and 0 <= part[1] <= GREAT)
                self.check_instructions(p, n, part[2])
                continue
            many = {"set": 1, "scale": 1, "copy": 2, "swap": 2, "add": 2, "read": 1, "write": 1}[word]
            self.assertEqual(len(numbers), many + (word in ("set", "scale", "add")))
            self.assertTrue(all(type(number) is int for number in numbers))
            self.assertTrue(all(0 <= x < n for x in numbers[:many]))
            self.assertEqual(len(set(numbers[:many])), many)
            self.assertTrue(all((word == "add") <= c < p for c in numbers[many:]))

    def check(self, p, n, program, histories):
        """Check that the backward program leads back from the end of each history."""
        back = self.made(p, n, program)
        for registers, inputs in histories:
            m = Machine(p, program, registers, inputs)
            m.goto(step_count(program))
            self.check_way(p, back, (m.registers(), m.journal()), (registers, inputs))
        return back

    def check_way(self, p, back, end, start):
        journal = end[1][::-1]
        self.assertEqual(read_count(back), len(journal))
        self.assertEqual(great_run(p, back, end[0], journal), (start[0], start[1][::-1], ()))
        if step_count(back) <= 20000:
            self.assertEqual(run(p, back, end[0], journal), (start[0], start[1][::-1]))


class BackwardTest(BackwardCase):
    def test_example(self):
        self.assertEqual(run(5, backward(5, 2, P), (4, 3), (2,)), ((3, 2), (4,)))
        self.assertEqual(backward(program=P, n=2, p=5), backward(5, 2, P))
        self.assertEqual(backward(5, program=P, n=2), backward(5, 2, P))
        self.check(5, 2, P, all_histories(5, 2, 1))

    def test_each_instruction(self):
        for instruction in (
            ("set", 1, 6),
            ("copy", 2, 0),
            ("add", 0, 2, 6),
            ("add", 2, 0, 1),
            ("scale", 1, 0),
            ("scale", 1, 1),
            ("scale", 1, 3),
            ("swap", 0, 2),
            ("read", 1),
            ("write", 1),
        ):
            for program in ((instruction,), (instruction, instruction), (loop(1, instruction),), (loop(5, instruction),)):
                chance = random.Random(400)
                histories = [(drawn(chance, 7, 3), drawn(chance, 7, read_count(program))) for _ in range(20)]
                self.check(7, 3, program, histories)
        self.assertEqual(backward(7, 3, (WRITE,)), ())

    def test_all_histories(self):
        """The journal is found by trying all histories."""
        for p, n, reads, many in ((2, 1, 3, 15), (2, 2, 3, 30), (2, 3, 2, 30), (3, 2, 2, 20), (5, 1, 1, 10)):
            for program in tiny_programs(p, n, reads, many, 401 + p + n, 12):
                if depth(program) > 2:
                    continue
                back = self.made(p, n, program)
                pushed = pushing_steps(p, n, program)
                for registers, inputs in all_histories(p, n, read_count(program)):
                    moments = played(p, program, registers, inputs)
                    journal = tuple(moments[step][0][x] for step, x in pushed)
                    self.check_way(p, back, (moments[-1][0], journal), (registers, inputs))

    def test_drawn_programs(self):
        chance = random.Random(402)
        done = looped = 0
        while done < 150:
            p, n = chance.choice((2, 3, 5, 101, 10007)), chance.randrange(1, 9)
            program = two_deep(chance, p, n, (0, 1, 2, 3, 5, 12))
            if few_steps(program):
                done += 1
                histories = [(drawn(chance, p, n), drawn(chance, p, read_count(program))) for _ in range(4)]
                looped += depth(self.check(p, n, program, histories)) > 0
        self.assertGreater(looped, 30)

    def test_great_loops(self):
        chance = random.Random(403)
        looped = 0
        for _ in range(120):
            p, n = chance.choice((2, 3, 5, 10007)), chance.randrange(1, 9)
            program = two_deep(chance, p, n, (0, 1, 3, 9, GREAT - 1, GREAT), ("read", "write"))
            histories = [(drawn(chance, p, n), drawn(chance, p, read_count(program))) for _ in range(3)]
            back = self.check(p, n, program, histories)
            looped += step_count(back) > 10 ** 15
        self.assertGreater(looped, 30)

    def test_great_loops_in_loops_with_reads(self):
        chance = random.Random(404)
        for _ in range(40):
            p, n = chance.choice((2, 3, 10007)), chance.randrange(1, 6)
            inner = two_deep(chance, p, n, (2,), ("read", "write"))
            inner = tuple(part for part in inner if part[0] not in ("loop", "read", "write"))[:6]
            steps = tuple(random_step(chance, p, n) for _ in range(4))
            program = (*steps, loop(chance.randrange(1, 9), *steps, loop(GREAT, *inner), ("read", 0), *steps), *steps)
            histories = [(drawn(chance, p, n), drawn(chance, p, read_count(program))) for _ in range(3)]
            self.check(p, n, program, histories)

    def test_the_note(self):
        body = COUNTER[1][2]
        for p, k in itertools.product((2, 3, 7, 10007), (0, 1, 2, 3, 4, 9, GREAT)):
            chance = random.Random(405)
            histories = [(drawn(chance, p, 3), ()) for _ in range(10)]
            for program in (COUNTER, COUNTER[1:], (("set", 0, 0), loop(k, *body)), (loop(k, *body),), (loop(k, loop(k, *body)),)):
                self.check(p, 3, program, histories)

    def test_weights_that_change_from_round_to_round(self):
        """What can occur is another line in each round, so that only some weights are right in every round."""
        for p, k in itertools.product((2, 5, 7), (1, 2, 3, 4, 5, 9, 100, GREAT)):
            chance = random.Random(406)
            turn = (("swap", 0, 1), ("add", 0, 1, 1), ("scale", 1, p - 1))
            histories = [(drawn(chance, p, 4), ()) for _ in range(8)]
            for first in ((), (("set", 0, 1),), (("set", 1, 0), ("copy", 0, 2)), (("set", 2, 1), ("set", 3, 0))):
                for extra in (
                    (("copy", 2, 0), ("add", 2, 1, 1)),
                    (("copy", 2, 0), ("copy", 3, 1)),
                    (("copy", 3, 2), ("copy", 2, 1), ("add", 0, 3, 1)),
                    (("set", 2, 1), ("add", 0, 2, 1), ("scale", 3, 0)),
                ):
                    self.check(p, 4, (*first, loop(k, *turn, *extra)), histories)
                    self.check(p, 4, (*first, loop(k, *extra, *turn)), histories)
                    self.check(p, 4, (*first, loop(k, *turn, loop(k, *extra))), histories)
                    self.check(p, 4, (*first, loop(k, loop(k, *turn), *extra)), histories)

    def test_registers_set_before_a_loop(self):
        for k in (1, 2, 3, 8, GREAT):
            chance = random.Random(407)
            histories = [(drawn(chance, 7, 3), ()) for _ in range(8)]
            for first in itertools.product(range(3), (0, 1, 6)):
                for body in (
                    (("copy", 1, 0), ("add", 0, 2, 1)),
                    (("copy", 2, 1), ("copy", 1, 0), ("set", 0, 0)),
                    (("scale", 0, 0), ("add", 1, 0, 3), ("swap", 1, 2)),
                    (("set", 0, 4), ("add", 0, 1, 1), ("add", 1, 2, 1)),
                ):
                    self.check(7, 3, (("set", *first), loop(k, *body)), histories)
                    self.check(7, 3, (("set", *first), ("copy", 1, 0), loop(k, *body), ("set", 2, 1)), histories)

    def test_shifts_that_lose_every_register(self):
        for n in range(2, 9):
            body = (*[("copy", x, x - 1) for x in range(n - 1, 0, -1)], ("set", 0, 3))
            chance = random.Random(408)
            histories = [(drawn(chance, 5, n), ()) for _ in range(5)]
            for k in (1, n - 1, n, n + 1, GREAT):
                back = self.check(5, n, (loop(k, *body),), histories)
                self.assertEqual(read_count(back), min(k, n))
                self.check(5, n, (loop(k, loop(k, *body)),), histories)
                self.check(5, n, (loop(k, *body, loop(3, ("swap", 0, 1))),), histories)
        back = self.check(7, 3, L, [((1, 2, 3), ())])
        self.assertEqual(great_run(7, back, (0, 0, 0), (1, 2, 3)), ((1, 2, 3), (), ()))

    def test_many_reads(self):
        chance = random.Random(409)
        for program in (
            (loop(2000, READ, ("add", 1, 0, 3), WRITE),),
            (loop(40, loop(50, READ, ("add", 1, 0, 3))), WRITE),
            (SET, loop(500, ("read", 1), ("add", 2, 1, 3), ("swap", 0, 2), loop(GREAT, ("add", 0, 2, 1)), ("copy", 2, 1))),
            (loop(300, ("swap", 0, 1), ("swap", 1, 2), ("read", 3), ("scale", 3, 4)), ("set", 0, 0)),
            (("set", 0, 0), loop(300, ("swap", 0, 1), ("swap", 1, 2), ("read", 3), ("scale", 3, 4))),
        ):
            self.check(7, 4, program, [(drawn(chance, 7, 4), drawn(chance, 7, read_count(program))) for _ in range(2)])

    def test_every_read_may_push(self):
        program = (loop(3, READ, loop(2, READ, ("copy", 1, 0))),)
        back = self.check(3, 2, program, all_histories(3, 2, 9)[::97])
        self.assertEqual(read_count(back), loss(3, 2, program, step_count(program)))
        self.assertEqual(write_count(back), 9)


class ShapeTest(BackwardCase):
    def test_none_where_the_program_is_empty(self):
        self.assertEqual(backward(5, 2, ()), ())
        self.assertEqual(backward(2, 1, ()), ())
        for program in ((loop(GREAT),), (loop(0, READ),), (loop(GREAT, loop(0, SET)),), (loop(0, loop(GREAT, READ)),)):
            self.check(5, 2, program, [((1, 2), ())])
            self.assertEqual(step_count(backward(5, 2, program)), 0)

    def test_loops_only_where_the_program_has_loops(self):
        chance = random.Random(420)
        for _ in range(40):
            p, n = chance.choice((2, 7, 10007)), chance.randrange(1, 9)
            program = tuple(random_step(chance, p, n) for _ in range(chance.randrange(41)))
            self.assertEqual(depth(self.made(p, n, program)), 0)

    def test_few_instructions_whatever_the_rounds(self):
        chance = random.Random(421)
        for _ in range(80):
            p, n = chance.choice((2, 3, 10007)), chance.randrange(1, 9)
            program = two_deep(chance, p, n, (GREAT - 1, GREAT, 10 ** 6), ("read", "write"))
            self.made(p, n, program)
        # Writes in a loop are no reads.
        for n in range(2, 9):
            shift = tuple(("copy", x, x - 1) for x in range(n - 1, 0, -1))
            self.made(5, n, (loop(2000, WRITE, *shift, SET),))
            self.made(5, n, (loop(40, *shift, loop(50, ("write", 1), *shift, SET)),))
            self.made(5, n, (loop(GREAT, *shift, loop(GREAT, *shift, SET)), READ))

    def test_rounds_that_can_be_undone_stay_a_loop(self):
        program = (loop(GREAT, ("add", 0, 1, 2), loop(GREAT, ("swap", 0, 1), ("scale", 1, 3))),)
        back = self.check(7, 2, program, all_histories(7, 2, 0))
        self.assertLessEqual(size(back), 2 * 27 * size(program))
        self.assertEqual(step_count(back), step_count(program))

    def test_size_and_depth(self):
        for many in (0, 1, 39, 40):
            program = (SET,) * many
            self.check(5, 2, program, [((3, 4), ())])
        self.check(5, 2, (loop(3, SET, loop(2, *(("add", 0, 1, 1),) * 37)),), [((3, 4), ())])
        self.check(5, 2, (loop(0, *(SET,) * 39),), [((3, 4), ())])
        self.check(5, 2, (loop(0, loop(GREAT, *(READ,) * 38)),), [((3, 4), ())])
        self.check(5, 2, (loop(GREAT),) * 40, [((3, 4), ())])
        self.check(5, 2, (loop(GREAT, loop(GREAT)),) * 20, [((3, 4), ())])

    def refused(self, kind, name, expected, program):
        before = frozen(program)
        with self.assertRaises(kind) as caught:
            backward(5, 2, program)
        self.assertIs(type(caught.exception), kind)
        self.assertEqual(getattr(caught.exception, name), expected)
        self.assertIs(type(getattr(caught.exception, name)), int)
        self.assertEqual(frozen(program), before)

    def test_too_long(self):
        deep = loop(2, loop(0, loop(GREAT)))
        for program, many in (
            ((SET,) * 41, 41),
            ((WRITE,) * 41, 41),
            ((loop(3, *(SET,) * 40),), 41),
            ((loop(0, *(SET,) * 40),), 41),
            ((loop(GREAT),) * 41, 41),
            ((SET,) * 200, 200),
            ((deep, *(SET,) * 38), 41),
            ((loop(1, deep), *(SET,) * 37), 41),
            ((loop(0, loop(0, loop(0, loop(0, *(SET,) * 37)))),), 41),
        ):
            self.refused(TooLong, "size", many, program)

    def test_too_deep(self):
        for program, deepest in (
            ((loop(2, loop(2, loop(2, SET))),), 3),
            ((loop(0, loop(0, loop(0))),), 3),
            ((loop(GREAT, loop(GREAT, loop(GREAT))), SET), 3),
            ((loop(1), loop(1, loop(1), loop(1, loop(1, loop(1))))), 4),
            ((loop(2, loop(2, loop(2, *(SET,) * 37))),), 3),
        ):
            self.refused(TooDeep, "depth", deepest, program)

    def test_backward_of_backward(self):
        """Started with the journal of its own run, it leads forward again."""
        chance = random.Random(422)
        done = 0
        while done < 60:
            p, n = chance.choice((2, 3, 7, 10007)), chance.randrange(1, 5)
            program = two_deep(chance, p, n, (0, 2, 9, GREAT), ("read", "write"))
            back = backward(p, n, program)
            if size(back) > 40 or size(program) < 3:
                continue
            done += 1
            registers, inputs = drawn(chance, p, n), drawn(chance, p, read_count(program))
            m = Machine(p, program, registers, inputs)
            m.goto(step_count(program))
            other = Machine(p, back, m.registers(), m.journal()[::-1])
            other.goto(step_count(back))
            self.assertEqual(other.registers(), registers)
            again = self.made(p, n, back)
            self.check_way(p, again, (registers, other.journal()), (m.registers(), m.journal()[::-1]))

    def test_results_may_be_passed_in_again(self):
        """A backward program beyond the limits is still answered by the other functions."""
        program = (("set", 3, 0), loop(100, ("swap", 1, 2), ("read", 0), ("swap", 2, 3), ("swap", 3, 4), *(("set", 7, 2),) * 9))
        back = self.made(7, 8, program)
        self.assertGreater(size(back), 200)
        with self.assertRaises(TooLong) as caught:
            backward(7, 8, back)
        self.assertEqual(caught.exception.size, size(back))
        self.assertEqual(loss(7, 8, back, 0), 0)


if __name__ == "__main__":
    unittest.main()
