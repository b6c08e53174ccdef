"""Points 3, 4 and 9: loss, pushes and recovery."""

import collections
import random
import unittest

from leastjournal.field import rank
from leastjournal.forms import forms
from leastjournal.losses import loss, pushes, recovery
from leastjournal.programs import locate, read_count, reads_before, step_count
from tests.helpers import GREAT, READ, SET, WRITE, frozen, loop, random_program, small_programs
from tests.reference import (
    all_histories,
    drawn,
    folded,
    great_moments,
    length,
    matrix_before,
    overwrites,
    played,
    pushing_steps,
    quiet_great_programs,
    reads_of,
    steps_of,
    tiny_programs,
    without,
)

P = (("copy", 1, 0), ("add", 0, 1, 4), ("read", 0))
L = (("loop", 10 ** 18, (("copy", 2, 1), ("copy", 1, 0), ("set", 0, 0))),)

# The note of point 13: behind its first rounds, r1 is always r0 - 1.
COUNTER = (loop(GREAT, ("copy", 1, 0), ("set", 2, 1), ("add", 0, 2, 1)),)


def tiny():
    """Return (p, n, program) for programs whose histories can all be tried."""
    found = []
    for p, n, reads, many in ((2, 1, 4, 12), (2, 2, 3, 40), (2, 3, 3, 40), (3, 2, 2, 30), (3, 3, 1, 12), (5, 2, 1, 20)):
        found += [(p, n, program) for program in tiny_programs(p, n, reads, many, 70 + p + n)]
    found.append((5, 2, P))
    found.append((2, 3, (loop(4, ("copy", 2, 1), ("copy", 1, 0), ("set", 0, 0)),)))
    found.append((3, 2, (loop(2, READ, ("add", 1, 0, 1)), ("scale", 1, 0), ("write", 1))))
    found.append((2, 3, (loop(3, ("copy", 1, 0), ("set", 2, 1), ("add", 0, 2, 1)),)))
    return found


def with_reads(many, seed):
    """Return (p, n, program): loops with reads around great loops without, and steps behind them."""
    chance = random.Random(seed)
    found = []
    while len(found) < many:
        p, n = chance.choice((2, 3, 5, 10007)), chance.randrange(1, 5)
        inner = without(random_program(chance, p, n, 2, 4, (0, 1, 3, GREAT)), ("read", "write"))
        steps = random_program(chance, p, n, 0, 6)
        program = (*steps, loop(chance.randrange(1, 4), *inner, READ, *steps), loop(GREAT, *inner), *steps)
        if step_count(program) > GREAT // 2:
            found.append((p, n, program))
    return found


def great():
    """Return (p, n, program) with great loops, with and without reads."""
    return [*quiet_great_programs(30, 71), *with_reads(30, 72), (7, 3, L), (7, 3, COUNTER), (2, 3, COUNTER)]


def quiet_rounds(program, step):
    """Return the round of each loop without reads that is around a step."""
    path = locate(program, step)[0]
    found = []
    for at in range(0, len(path) - 1, 2):
        part = program[path[at]]
        if read_count((part,)) == 0:
            found.append(path[at + 1])
        program = part[2]
    return found


class LossTest(unittest.TestCase):
    def test_example(self):
        self.assertEqual(loss(5, 2, P, 3), 1)
        self.assertEqual(loss(moment=3, program=P, n=2, p=5), 1)
        self.assertEqual([loss(5, 2, P, moment) for moment in range(4)], [0, 1, 1, 1])
        self.assertIs(type(loss(5, 2, P, 3)), int)

    def test_as_many_histories_as_the_loss_says(self):
        for p, n, program in tiny():
            before = frozen(program)
            steps = steps_of(program)
            for moment in range(len(steps) + 1):
                reads = reads_of(steps[:moment])
                part = tuple(steps[:moment])
                contents = collections.Counter(played(p, part, *one)[-1][0] for one in all_histories(p, n, reads))
                answer = loss(p, n, program, moment)
                self.assertEqual(set(contents.values()), {p ** answer}, (p, n, program, moment))
                self.assertLessEqual(answer, n + reads)
            self.assertEqual(frozen(program), before)

    def test_unknowns_less_rank(self):
        chance = random.Random(73)
        for p, n, program in great():
            for moment in great_moments(chance, program, 3):
                answer = loss(p, n, program, moment)
                linear = tuple(form[1:] for form in forms(p, n, program, moment))
                reads = reads_before(program, moment)
                self.assertEqual(answer, n + reads - rank(p, linear))
                self.assertTrue(0 <= answer <= n + reads)

    def test_great_loops_against_matrices(self):
        chance = random.Random(74)
        for p, n, program in quiet_great_programs(30, 75):
            for moment in great_moments(chance, program, 3):
                matrix = matrix_before(p, n, program, moment)
                self.assertEqual(loss(p, n, program, moment), n - rank(p, tuple(tuple(row[1:]) for row in matrix[1:])))

    def test_every_read_is_lost(self):
        program = (loop(2000, READ),)
        for moment in (0, 1, 2, 1000, 1999, 2000):
            self.assertEqual(loss(5, 2, program, moment), moment)
            self.assertEqual(pushes(5, 2, program, moment), tuple((step, 0) for step in range(moment)))
        program = (loop(2000, READ, ("add", 1, 0, 1)), SET, ("set", 1, 0))
        self.assertEqual(loss(5, 2, program, 4002), 2002)


class PushesTest(unittest.TestCase):
    def test_example(self):
        self.assertEqual(pushes(5, 2, P, 3), ((0, 1),))
        self.assertEqual(pushes(7, 3, L, 3 * 10 ** 18), ((0, 2), (3, 2), (6, 2)))
        self.assertEqual(pushes(moment=3, program=P, n=2, p=5), ((0, 1),))

    def test_kinds_of_values(self):
        answer = pushes(5, 2, P, 3)
        self.assertEqual([type(part) for part in (answer, answer[0], *answer[0])], [tuple, tuple, int, int])
        self.assertEqual(pushes(5, 2, P, 0), ())
        self.assertEqual(pushes(5, 2, (), 0), ())

    def test_two_histories_differ_in_x_only(self):
        for p, n, program in tiny():
            before = frozen(program)
            expected = pushing_steps(p, n, program)
            for moment in range(len(steps_of(program)) + 1):
                answer = pushes(p, n, program, moment)
                self.assertEqual(answer, tuple(one for one in expected if one[0] < moment), (p, n, program, moment))
                self.assertEqual(len(answer), loss(p, n, program, moment))
            self.assertEqual(frozen(program), before)

    def test_small_programs(self):
        for p, n, program in small_programs(90, 60):
            whole = pushes(p, n, program, step_count(program))
            self.assertEqual(whole, tuple(sorted(set(whole))))
            for moment in range(step_count(program) + 1):
                answer = pushes(p, n, program, moment)
                self.assertEqual(answer, tuple(one for one in whole if one[0] < moment))
                self.assertEqual(len(answer), loss(p, n, program, moment))
                self.assertLessEqual(len(answer), n + reads_before(program, moment))

    def test_as_many_as_the_loss_in_great_loops(self):
        chance = random.Random(76)
        for p, n, program in great():
            whole = pushes(p, n, program, step_count(program))
            self.assertEqual(whole, tuple(sorted(set(whole))))
            for step, x in whole:
                self.assertEqual(overwrites(locate(program, step)[1]), x)
                self.assertEqual(loss(p, n, program, step + 1), loss(p, n, program, step) + 1)
            for moment in great_moments(chance, program, 3):
                answer = pushes(p, n, program, moment)
                self.assertEqual(answer, tuple(one for one in whole if one[0] < moment))
                self.assertEqual(len(answer), loss(p, n, program, moment))

    def test_first_rounds_only(self):
        pushed = 0
        for p, n, program in great():
            for step, _ in pushes(p, n, program, step_count(program)):
                turns = quiet_rounds(program, step)
                self.assertTrue(all(turn < n for turn in turns), (program, step))
                pushed += turns != []
        self.assertGreater(pushed, 20)

    def test_last_of_the_first_rounds(self):
        """A chain of n registers takes n rounds to lose the last one of its values."""
        for n in range(2, 9):
            body = (*[("copy", x, x - 1) for x in range(n - 1, 0, -1)], ("set", 0, 0))
            for k in (n - 1, n, n + 1, GREAT):
                expected = tuple((turn * n, n - 1) for turn in range(min(k, n)))
                self.assertEqual(pushes(5, n, (loop(k, *body),), k * n), expected)
                self.assertEqual(pushes(5, n, (loop(k, loop(1, *body)),), k * n), expected)
                self.assertEqual(pushes(5, n, (loop(GREAT, loop(k, *body)),), GREAT * k * n), tuple(
                    (turn * n, n - 1) for turn in range(n)
                ))

    def test_against_short_loops(self):
        """Over two values of two registers, every 84th power behind the first few is the same."""
        for program in tiny_programs(2, 2, 1, 40, 77, 8):
            steps = steps_of(program)
            body = [one for one in steps if one[0] not in ("read", "write")]
            great_one = (*program, loop(GREAT, *body), *program)
            short = folded(great_one, 4, 84)
            behind = step_count(great_one) - step_count(short)
            border = len(steps) + 4 * len(body)
            expected = pushing_steps(2, 2, short)
            self.assertTrue(all(step < border or step >= step_count(short) - len(steps) for step, _ in expected))
            expected = tuple((step if step < border else step + behind, x) for step, x in expected)
            self.assertEqual(pushes(2, 2, great_one, step_count(great_one)), expected)

    def test_each_read_in_a_loop_may_push(self):
        program = (loop(700, READ, loop(GREAT, ("add", 1, 0, 1)), loop(2, READ)),)
        turn = GREAT + 3
        answer = pushes(10007, 2, program, 700 * turn)
        # At the end r0 is the last input and r1 a sum of others: all but two unknowns are lost.
        self.assertEqual(len(answer), loss(10007, 2, program, 700 * turn))
        self.assertEqual(len(answer), 2 + 3 * 700 - 2)
        for step, x in answer:
            self.assertEqual((locate(program, step)[1], x), (READ, 0))


class RecoveryTest(unittest.TestCase):
    def check_sum(self, p, n, x, answer):
        self.assertIs(type(answer), tuple)
        self.assertEqual((len(answer), answer[0], answer[1]), (4, "sum", x))
        _, _, constant, found = answer
        self.assertIs(type(found), tuple)
        self.assertEqual(len(found), n)
        self.assertEqual(found[x], 0)
        for number in (constant, *found):
            self.assertIs(type(number), int)
            self.assertTrue(0 <= number < p)

    def check_forms(self, p, table, answer):
        """Check for every history that a sum is right, by the forms of the registers."""
        _, x, constant, found = answer
        for place in range(len(table[x])):
            total = sum(weight * form[place] for weight, form in zip(found, table))
            self.assertEqual((total + (constant if place == 0 else 0)) % p, table[x][place])

    def test_example(self):
        self.assertEqual(recovery(5, 2, P, 0), ("pop", 1))
        self.assertIsNone(recovery(5, 2, P, 1))
        self.assertEqual(recovery(5, 2, P, 2), ("sum", 0, 0, (0, 0)))
        self.assertEqual(recovery(step=0, program=P, n=2, p=5), ("pop", 1))

    def test_every_history(self):
        for p, n, program in tiny():
            before = frozen(program)
            steps = steps_of(program)
            pushed = dict(pushing_steps(p, n, program))
            for step, instruction in enumerate(steps):
                answer = recovery(p, n, program, step)
                x = overwrites(instruction)
                if x is None:
                    self.assertIsNone(answer)
                elif step in pushed:
                    self.assertEqual(answer, ("pop", x))
                else:
                    self.check_sum(p, n, x, answer)
                    for history in all_histories(p, n, reads_of(steps[:step])):
                        now = played(p, tuple(steps[:step]), *history)[-1][0]
                        total = answer[2] + sum(weight * value for weight, value in zip(answer[3], now))
                        self.assertEqual(total % p, now[x])
            self.assertEqual(frozen(program), before)

    def test_small_programs(self):
        chance = random.Random(78)
        for p, n, program in small_programs(90, 60):
            steps = steps_of(program)
            histories = [(drawn(chance, p, n), drawn(chance, p, reads_of(steps))) for _ in range(3)]
            runs = [played(p, program, *history) for history in histories]
            pushed = pushes(p, n, program, len(steps))
            for step, instruction in enumerate(steps):
                answer = recovery(p, n, program, step)
                x = overwrites(instruction)
                self.assertEqual(answer is None, x is None)
                self.assertEqual(answer == ("pop", x), (step, x) in pushed)
                if answer is not None and answer != ("pop", x):
                    self.check_sum(p, n, x, answer)
                    for run in runs:
                        now = run[step][0]
                        total = answer[2] + sum(weight * value for weight, value in zip(answer[3], now))
                        self.assertEqual(total % p, now[x])

    def test_great_loops(self):
        chance = random.Random(79)
        sums = 0
        for p, n, program in great():
            pushed = pushes(p, n, program, step_count(program))
            for step in great_moments(chance, program, 3)[:-1]:
                answer = recovery(p, n, program, step)
                x = overwrites(locate(program, step)[1])
                self.assertEqual(answer is None, x is None)
                self.assertEqual(answer == ("pop", x), (step, x) in pushed)
                if answer is not None and answer != ("pop", x):
                    self.check_sum(p, n, x, answer)
                    self.check_forms(p, forms(p, n, program, step), answer)
                    sums += 1
            for step, x in pushed:
                self.assertEqual(recovery(p, n, program, step), ("pop", x))
        self.assertGreater(sums, 100)

    def test_great_loops_against_matrices(self):
        chance = random.Random(80)
        for p, n, program in quiet_great_programs(20, 81):
            for step in great_moments(chance, program, 3)[:-1]:
                answer = recovery(p, n, program, step)
                if answer is not None and answer[0] == "sum":
                    self.check_forms(p, matrix_before(p, n, program, step)[1:], answer)

    def test_a_counter(self):
        """Far into the loop r1 is r0 - 1, so its value can be told, whatever the round is."""
        for turn in (2, 3, 9, GREAT // 2, GREAT - 1):
            answer = recovery(7, 3, COUNTER, 3 * turn)
            self.check_sum(7, 3, 1, answer)
            self.check_forms(7, forms(7, 3, COUNTER, 3 * turn), answer)
            for start in range(7):
                now = ((start + turn) % 7, (start + turn - 1) % 7, 1)
                total = answer[2] + sum(weight * value for weight, value in zip(answer[3], now))
                self.assertEqual(total % 7, now[1])
        self.assertEqual(pushes(7, 3, COUNTER, 3 * GREAT), ((0, 1), (1, 2)))

    def test_writes_and_bijections(self):
        program = (WRITE, ("swap", 0, 1), ("add", 0, 1, 1), ("scale", 0, 1), ("scale", 1, 4), loop(0, SET))
        for step in range(length(("loop", 1, program))):
            self.assertIsNone(recovery(5, 2, program, step))
        self.assertEqual(recovery(5, 2, (("scale", 1, 0),), 0), ("pop", 1))
        self.assertEqual(recovery(5, 1, (READ,), 0), ("pop", 0))


if __name__ == "__main__":
    unittest.main()
