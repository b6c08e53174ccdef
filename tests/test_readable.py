"""Points 2, 4 and 11: readable and shows_readable."""

import itertools
import random
import unittest

from leastjournal.field import rank
from leastjournal.forms import forms
from leastjournal.machine import Machine
from leastjournal.programs import last_assignment, read_count, reads_before, step_count
from leastjournal.readable import readable, shows_readable
from tests.helpers import GREAT, JUNK, READ, SET, WRITE, deep_junk, frozen, loop, random_program, variants
from tests.reference import (
    all_histories,
    drawn,
    great_forms,
    great_moments,
    great_run,
    played,
    quiet_great_programs,
    reads_of,
    steps_of,
    tiny_programs,
)
from tests.test_forms import expected_forms
from tests.test_losses import with_reads
from tests.test_runs import invertible

P = (("copy", 1, 0), ("add", 0, 1, 4), ("read", 0))
L = (("loop", 10 ** 18, (("copy", 2, 1), ("copy", 1, 0), ("set", 0, 0))),)


def is_number(p, value):
    return type(value) is int and 0 <= value < p


def is_row(p, many, value):
    return type(value) is tuple and len(value) == many and all(is_number(p, part) for part in value)


def is_pair(p, n, reads, value):
    """Whether a value is a history, told by the words of the document."""
    return type(value) is tuple and len(value) == 2 and is_row(p, n, value[0]) and is_row(p, reads, value[1])


def right_sum(p, n, value, present, wanted):
    """Whether a value is a sum that gives the wanted form; all forms have numbers for the same unknowns."""
    if type(value) is not tuple or len(value) != 3 or value[0] != "sum":
        return False
    if not is_number(p, value[1]) or not is_row(p, n, value[2]):
        return False
    total = [sum(a * form[at] for a, form in zip(value[2], present)) % p for at in range(len(wanted))]
    total[0] = (total[0] + value[1]) % p
    return total == list(wanted)


def right_apart(p, n, value, reads, state):
    """Whether a value shows two histories; state tells (registers at now, x at then) of a history."""
    if type(value) is not tuple or len(value) != 3 or value[0] != "apart":
        return False
    if not is_pair(p, n, reads, value[1]) or not is_pair(p, n, reads, value[2]):
        return False
    (now, then), (other_now, other_then) = state(value[1]), state(value[2])
    return now == other_now and then != other_then


def widened(table, width):
    return [[*form, *[0] * (width - len(form))] for form in table]


class ReadableCase(unittest.TestCase):
    def ask(self, p, n, program, now, then, x):
        """Return the answer; the same question has the same answer, and shows_readable agrees with it."""
        before = frozen(program)
        answer = readable(p, n, program, now, then, x)
        self.assertEqual(frozen(program), before)
        self.assertIs(shows_readable(p, n, program, now, then, x, answer), True)
        self.assertEqual(frozen(program), before)
        return answer

    def check_forms(self, p, n, program, now, then, x):
        """Check an answer by forms found with matrices."""
        reads = reads_before(program, max(now, then))
        present = great_forms(p, n, program, now, reads)
        wanted = great_forms(p, n, program, then, reads)[x]
        self.check_against(p, n, program, (now, then, x), present, wanted)

    def check_against(self, p, n, program, question, present, wanted):
        now, then, x = question
        linear = tuple(tuple(form[1:]) for form in present)
        told = rank(p, linear) == rank(p, (*linear, tuple(wanted[1:])))
        answer = self.ask(p, n, program, now, then, x)
        if told:
            self.assertTrue(right_sum(p, n, answer, present, wanted), (p, program, question, answer))
        else:
            def state(history):
                values = (1, *history[0], *history[1])
                shown = [sum(a * b for a, b in zip(form, values)) % p for form in (*present, wanted)]
                return shown[:-1], shown[-1]

            reads = len(wanted) - 1 - n
            self.assertTrue(right_apart(p, n, answer, reads, state), (p, program, question, answer))
        return told


class ReadableTest(ReadableCase):
    def test_example(self):
        self.assertEqual(readable(5, 2, P, 3, 0, 0), ("sum", 0, (0, 1)))
        self.assertEqual(readable(5, 2, P, 3, 0, 1)[0], "apart")

    def test_names_of_arguments(self):
        for x in (0, 1):
            answer = readable(5, 2, P, 3, 0, x)
            self.assertEqual(readable(x=x, then=0, now=3, program=P, n=2, p=5), answer)
            self.assertEqual(readable(5, 2, P, x=x, then=0, now=3), answer)
            self.assertTrue(shows_readable(value=answer, x=x, then=0, now=3, program=P, n=2, p=5))
            self.assertFalse(shows_readable(value=answer, x=1 - x, then=0, now=3, program=P, n=2, p=5))

    def test_kinds_of_values(self):
        answer = readable(5, 2, P, 3, 0, 0)
        self.assertEqual([type(part) for part in (answer, *answer, *answer[2])], [tuple, str, int, tuple, int, int])
        answer = readable(5, 2, P, 3, 0, 1)
        self.assertEqual([type(part) for part in (answer, *answer)], [tuple, str, tuple, tuple])
        for registers, inputs in answer[1:]:
            self.assertEqual([type(part) for part in (registers, inputs)], [tuple, tuple])
            self.assertEqual([type(part) for part in (*registers, *inputs)], [int] * 3)

    def test_all_histories(self):
        """A sum is returned exactly if the registers at now determine x at then."""
        counts = {"sum": 0, "apart": 0}
        for p, n, reads, many in ((2, 1, 3, 10), (2, 2, 2, 25), (2, 3, 2, 15), (3, 1, 2, 8), (3, 2, 1, 15)):
            programs = tiny_programs(p, n, reads, many, 200 + p + n, 8)
            for program in (*programs, (SET, READ, WRITE)):
                steps = steps_of(program)
                for now, then in itertools.product(range(len(steps) + 1), repeat=2):
                    late = max(now, then)
                    runs = {
                        one: played(p, tuple(steps[:late]), *one)
                        for one in all_histories(p, n, reads_of(steps[:late]))
                    }
                    for x in range(n):
                        answer = self.ask(p, n, program, now, then, x)
                        counts[answer[0]] += 1
                        self.check_all(p, n, answer, runs, (now, then, x))
        self.assertGreater(min(counts.values()), 300)

    def check_all(self, p, n, answer, runs, question):
        now, then, x = question
        seen = {}
        for run in runs.values():
            seen.setdefault(run[now][0], set()).add(run[then][0][x])
        if all(len(values) == 1 for values in seen.values()):
            self.assertEqual(answer[0], "sum")
            self.assertTrue(is_number(p, answer[1]) and is_row(p, n, answer[2]))
            for run in runs.values():
                total = answer[1] + sum(a * b for a, b in zip(answer[2], run[now][0]))
                self.assertEqual(total % p, run[then][0][x])
        else:
            self.assertEqual(answer[0], "apart")
            one, other = runs[answer[1]], runs[answer[2]]
            self.assertEqual(one[now][0], other[now][0])
            self.assertNotEqual(one[then][0][x], other[then][0][x])

    def test_greater_primes_and_more_registers(self):
        chance = random.Random(201)
        told = apart = 0
        for p, n in itertools.product((5, 101, 10007), (1, 2, 4, 6, 8)):
            for _ in range(4):
                program = random_program(chance, p, n, 2, 6)
                table = expected_forms(p, n, program)
                for _ in range(12):
                    now, then = chance.randrange(len(table)), chance.randrange(len(table))
                    x = chance.randrange(n)
                    width = max(len(table[now][0]), len(table[then][0]))
                    present, wanted = widened(table[now], width), widened([table[then][x]], width)[0]
                    if self.check_against(p, n, program, (now, then, x), present, wanted):
                        told += 1
                    else:
                        apart += 1
        self.assertGreater(min(told, apart), 60)

    def test_the_present_is_readable(self):
        chance = random.Random(202)
        for p, n, program in (*quiet_great_programs(10, 203), *with_reads(10, 204)):
            for moment in great_moments(chance, program, 2)[::5]:
                for x in range(n):
                    self.assertEqual(readable(p, n, program, moment, moment, x)[0], "sum")

    def test_every_past_value_from_the_beginning(self):
        """Without reads, the initial registers tell the whole future."""
        chance = random.Random(205)
        for p, n, program in quiet_great_programs(15, 206):
            for then in great_moments(chance, program, 2)[::4]:
                for x in range(n):
                    answer = self.ask(p, n, program, 0, then, x)
                    form = forms(p, n, program, then)[x]
                    self.assertEqual(answer, ("sum", form[0], form[1:]))

    def test_rounds_that_can_be_undone(self):
        chance = random.Random(207)
        done = 0
        while done < 12:
            p, n = chance.choice((2, 3, 7, 10007)), chance.randrange(2, 9)
            program = invertible(random_program(chance, p, n, 4, 4, (1, 2, GREAT - 1, GREAT)))
            if step_count(program) > GREAT // 2:
                done += 1
                moments = great_moments(chance, program, 4)
                for _ in range(6):
                    now, then = chance.choice(moments), chance.choice(moments)
                    x = chance.randrange(n)
                    self.assertEqual(self.ask(p, n, program, now, then, x)[0], "sum")
                    self.check_forms(p, n, program, now, then, x)

    def test_great_loops(self):
        chance = random.Random(208)
        told = apart = 0
        for p, n, program in (*quiet_great_programs(25, 209), *with_reads(25, 210), (7, 3, L)):
            moments = great_moments(chance, program, 3)
            for _ in range(8):
                now, then, x = chance.choice(moments), chance.choice(moments), chance.randrange(n)
                reads = reads_before(program, max(now, then))
                present = great_forms(p, n, program, now, reads)
                wanted = great_forms(p, n, program, then, reads)[x]
                if self.check_against(p, n, program, (now, then, x), present, wanted):
                    told += 1
                else:
                    apart += 1
        self.assertGreater(min(told, apart), 30)

    def test_before_a_copy_whose_old_value_is_held_nowhere(self):
        program = (loop(GREAT, ("add", 1, 0, 1), ("add", 0, 1, 2)), ("copy", 1, 0), loop(GREAT, ("add", 0, 2, 1)))
        copy = 2 * GREAT
        end = 3 * GREAT + 1
        for now in (copy + 1, copy + 2, end - 1, end):
            for then in (copy, copy - 1, GREAT, 1, 0):
                self.assertEqual(self.ask(7, 3, program, now, then, 1)[0], "apart")
                self.check_forms(7, 3, program, now, then, 1)
            self.assertEqual(self.ask(7, 3, program, now, copy, 0)[0], "sum")
        for now in (0, 1, GREAT, copy):
            for then in (0, 1, GREAT, copy, copy + 1, end):
                self.assertEqual(self.ask(7, 3, program, now, then, 1)[0], "sum")
        # Far into the shift, what is behind the first rounds was lost for good.
        for now, then, x, word in (
            (3 * GREAT, 0, 0, "apart"),
            (3 * GREAT, 3 * GREAT - 1, 2, "sum"),
            (3, 0, 0, "sum"),
            (3, 0, 2, "apart"),
            (6, 2, 1, "sum"),
            (6, 2, 2, "apart"),
            (0, 3 * GREAT, 2, "sum"),
        ):
            self.assertEqual(self.ask(7, 3, L, now, then, x)[0], word)
            self.check_forms(7, 3, L, now, then, x)

    def test_inputs_not_yet_read(self):
        program = (READ, ("add", 1, 0, 1), READ, ("set", 0, 3))
        for now, then, x, word in (
            (0, 1, 0, "apart"),
            (0, 1, 1, "sum"),
            (0, 2, 1, "apart"),
            (1, 2, 1, "sum"),
            (2, 3, 0, "apart"),
            (3, 1, 0, "apart"),
            (2, 0, 1, "sum"),
            (3, 4, 0, "sum"),
        ):
            answer = self.ask(5, 2, program, now, then, x)
            self.assertEqual(answer[0], word, (now, then, x))
            if word == "apart":
                reads = reads_before(program, max(now, then))
                self.assertEqual([len(one[1]) for one in answer[1:]], [reads, reads])
        self.assertEqual(readable(5, 2, program, 0, 4, 0), ("sum", 3, (0, 0)))

    def test_many_reads(self):
        program = (loop(2000, READ, ("add", 1, 0, 3), WRITE),)
        for now, then, x in ((6000, 5999, 0), (6000, 0, 0), (6000, 3000, 1), (0, 6000, 1), (4000, 3999, 1)):
            answer = self.ask(10007, 2, program, now, then, x)
            reads = reads_before(program, max(now, then))
            if answer[0] == "apart":
                states = [great_run(10007, program, *one, now)[0] for one in answer[1:]]
                self.assertEqual(states[0], states[1])
                self.assertTrue(all(is_pair(10007, 2, reads, one) for one in answer[1:]))

    def test_programs_without_steps(self):
        for program in ((), (loop(GREAT),), (loop(0, READ),), (loop(GREAT, loop(0, WRITE)),)):
            for x in range(3):
                weights = tuple(int(y == x) for y in range(3))
                self.assertEqual(readable(5, 3, program, 0, 0, x), ("sum", 0, weights))

    def test_agrees_with_a_machine(self):
        chance = random.Random(211)
        for p, n, program in (*quiet_great_programs(8, 212), *with_reads(8, 213)):
            m = Machine(p, program, drawn(chance, p, n), drawn(chance, p, read_count(program)))
            moments = great_moments(chance, program, 2)
            for _ in range(10):
                now, then, x = chance.choice(moments), chance.choice(moments), chance.randrange(n)
                answer = readable(p, n, program, now, then, x)
                m.goto(now)
                if answer[0] == "sum":
                    total = answer[1] + sum(a * b for a, b in zip(answer[2], m.registers()))
                    self.assertEqual(total % p, m.peek(x, then))


class ShowsReadableTest(ReadableCase):
    def check(self, expected, p, n, program, question, value):
        before = frozen((value, program))
        self.assertIs(shows_readable(p, n, program, *question, value), expected, (p, n, program, question, value))
        self.assertEqual(frozen((value, program)), before)

    def questions(self, seed):
        """Return (p, n, program, question, present, wanted) for small programs, and for great loops."""
        chance = random.Random(seed)
        found = []
        for p, n, reads in ((2, 2, 2), (3, 1, 1), (3, 2, 2), (5, 3, 2)):
            for program in tiny_programs(p, n, reads, 5, seed + p + n, 8):
                found += [(p, n, program, range(step_count(program) + 1))] * 3
        for p, n, program in (*quiet_great_programs(6, seed), *with_reads(6, seed), (7, 3, L)):
            found += [(p, n, program, great_moments(chance, program, 2))] * 2
        result = []
        for p, n, program, moments in found:
            now, then, x = chance.choice(moments), chance.choice(moments), chance.randrange(n)
            reads = reads_before(program, max(now, then))
            tables = [great_forms(p, n, program, moment, reads) for moment in (now, then)]
            result.append((p, n, program, (now, then, x), tables[0], tables[1][x]))
        return result

    def test_one_part_changed(self):
        right = wrong = 0
        for p, n, program, question, present, wanted in self.questions(220):
            answer = readable(p, n, program, *question)

            def state(history):
                now, then, x = question
                return great_run(p, program, *history, now)[0], great_run(p, program, *history, then)[0][x]

            for value in variants(answer):
                expected = right_sum(p, n, value, present, wanted)
                expected = expected or right_apart(p, n, value, len(wanted) - 1 - n, state)
                self.check(expected, p, n, program, question, value)
                right += expected
                wrong += not expected
        self.assertGreater(right, 30)
        self.assertGreater(wrong, 3000)

    def test_all_sums_and_all_pairs(self):
        """Every right answer is taken, and no other one."""
        for p, n, reads in ((2, 2, 1), (3, 1, 1), (2, 1, 2), (3, 2, 0)):
            for program in tiny_programs(p, n, reads, 4, 221 + p + n, 6):
                end = step_count(program)
                for now, then, x in itertools.product((0, end // 2, end), (0, end // 2, end), range(n)):
                    self.check_everything(p, n, program, (now, then, x))

    def check_everything(self, p, n, program, question):
        now, then, x = question
        late = max(now, then)
        reads = reads_before(program, late)
        steps = tuple(steps_of(program)[:late])
        runs = {one: played(p, steps, *one) for one in all_histories(p, n, reads)}
        for one, other in itertools.product(runs, repeat=2):
            states = [runs[history] for history in (one, other)]
            expected = states[0][now][0] == states[1][now][0] and states[0][then][0][x] != states[1][then][0][x]
            self.check(expected, p, n, program, question, ("apart", one, other))
        for numbers in itertools.product(range(p), repeat=n + 1):
            expected = all(
                (numbers[0] + sum(a * b for a, b in zip(numbers[1:], run[now][0]))) % p == run[then][0][x]
                for run in runs.values()
            )
            self.check(expected, p, n, program, question, ("sum", numbers[0], numbers[1:]))

    def test_sums_by_hand(self):
        question = (3, 0, 0)
        for value, expected in (
            (("sum", 0, (0, 1)), True),
            (("sum", 1, (0, 1)), False),
            (("sum", 0, (1, 1)), False),
            (("sum", 0, (0, 2)), False),
            (("sum", 5, (0, 1)), False),
            (("sum", -5, (0, 1)), False),
            (("sum", 0, (0, 6)), False),
            (("sum", 0, (5, 1)), False),
            (("sum", 0, (0, True)), False),
            (("sum", False, (0, 1)), False),
            (("sum", 0, (False, 1)), False),
            (("sum", 0, [0, 1]), False),
            (["sum", 0, (0, 1)], False),
            (("sum", 0, (0, 1, 0)), False),
            (("sum", 0, (0,)), False),
            (("sum", 0, ()), False),
            (("sum", 0), False),
            (("sum", 0, (0, 1), 0), False),
            (("sum", (0, 1), 0), False),
            (("sum", 0, 0, 1), False),
            (("apart", 0, (0, 1)), False),
            ((b"sum".decode(), 0, (0, 1)), True),
            (("Sum", 0, (0, 1)), False),
            ((("sum", 0, (0, 1)),), False),
        ):
            self.check(expected, 5, 2, P, question, value)

    def test_another_right_sum(self):
        """Behind the copy both registers hold the same value, so many weights are right."""
        for a, b, constant in itertools.product(range(5), repeat=3):
            expected = (a + b) % 5 == 1 and constant == 0
            self.check(expected, 5, 2, P, (1, 0, 0), ("sum", constant, (a, b)))
        # r0 is 3 for every history, so that a constant can stand for it.
        for a, b, constant in itertools.product(range(5), repeat=3):
            expected = (3 * a + constant) % 5 == 3 and b == 0
            self.check(expected, 5, 2, (("set", 0, 3),), (1, 1, 0), ("sum", constant, (a, b)))

    def test_histories_by_hand(self):
        question = (3, 0, 1)
        for value, expected in (
            (("apart", ((1, 2), (3,)), ((1, 4), (3,))), True),
            (("apart", ((1, 2), (3,)), ((1, 2), (3,))), False),
            (("apart", ((1, 2), (3,)), ((1, 4), (2,))), False),
            (("apart", ((1, 2), (3,)), ((0, 4), (3,))), False),
            (("apart", ((1, 2), ()), ((1, 4), ())), False),
            (("apart", ((1, 2), (3, 3)), ((1, 4), (3, 3))), False),
            (("apart", ((1, 2, 0), (3,)), ((1, 4, 0), (3,))), False),
            (("apart", ((2,), (3,)), ((4,), (3,))), False),
            (("apart", ((1, 2), (3,)), ((1, 7), (3,))), False),
            (("apart", ((1, 2), (3,)), ((1, -1), (3,))), False),
            (("apart", ((1, 2), (8,)), ((1, 4), (8,))), False),
            (("apart", ((True, 2), (3,)), ((True, 4), (3,))), False),
            (("apart", ((1, 0), (3,)), ((1, True), (3,))), False),
            (("apart", ((1, 2), (True,)), ((1, 4), (True,))), False),
            (("apart", ([1, 2], (3,)), ([1, 4], (3,))), False),
            (("apart", ((1, 2), [3]), ((1, 4), [3])), False),
            (("apart", [(1, 2), (3,)], [(1, 4), (3,)]), False),
            (("apart", ((1, 2), (3,))), False),
            (("apart", ((1, 2), (3,)), ((1, 4), (3,)), ()), False),
            (("apart", (((1, 2), (3,)), ((1, 4), (3,)))), False),
            (("sum", ((1, 2), (3,)), ((1, 4), (3,))), False),
            ((((1, 2), (3,)), ((1, 4), (3,))), False),
        ):
            self.check(expected, 5, 2, P, question, value)

    def test_length_of_histories(self):
        """The histories go up to the later one of both moments."""
        program = (READ, ("read", 1), ("set", 0, 0))
        for now, then, reads in ((0, 1, 1), (0, 2, 2), (1, 0, 1), (2, 0, 2), (3, 0, 2), (1, 2, 2), (3, 1, 2), (0, 0, 0)):
            for x, many in itertools.product((0, 1), range(4)):
                answer = self.ask(5, 2, program, now, then, x)
                if answer[0] == "apart":
                    self.assertEqual([len(one[1]) for one in answer[1:]], [reads] * 2)
                    value = ("apart", *[(one[0], (one[1] + (0, 0, 0))[:many]) for one in answer[1:]])
                    self.check(many == reads, 5, 2, program, (now, then, x), value)

    def test_values_of_any_kind(self):
        for value in (*JUNK, *deep_junk(), 0, 1, -1, 10 ** 79, "sum", "apart", ("sum",), ("apart",)):
            for question in ((3, 0, 0), (3, 0, 1), (0, 3, 0), (0, 0, 0)):
                self.check(False, 5, 2, P, question, value)
                for word in ("sum", "apart", value):
                    self.check(False, 5, 2, P, question, (word, value))
                    self.check(False, 5, 2, P, question, (word, value, value))
                self.check(False, 5, 2, P, question, ("sum", 0, value))
                if type(value) is not int:
                    self.check(False, 5, 2, P, question, ("sum", value, (0, 1)))
                self.check(False, 5, 2, P, question, ("apart", ((1, 2), (3,)), value))
                self.check(False, 5, 2, P, question, ("apart", (value, (3,)), ((1, 4), (3,))))
            self.check(False, 7, 3, L, (3 * GREAT, 0, 0), value)

    def test_every_dependence_on_moments(self):
        for now, then, x in itertools.product(range(last_assignment(P, 3, 0) + 2), range(4), range(2)):
            answer = readable(5, 2, P, now, then, x)
            for other in itertools.product(range(4), range(4), range(2)):
                reads = reads_before(P, max(other[:2]))
                tables = [great_forms(5, 2, P, moment, reads) for moment in other[:2]]

                def state(history):
                    return tuple(great_run(5, P, *history, moment)[0] for moment in other[:1]) + (
                        great_run(5, P, *history, other[1])[0][other[2]],
                    )

                expected = right_sum(5, 2, answer, tables[0], tables[1][other[2]])
                expected = expected or right_apart(5, 2, answer, reads, state)
                self.check(expected, 5, 2, P, other, answer)


if __name__ == "__main__":
    unittest.main()
