"""Points 2, 4 and 12: is_plan, own_plan, sufficient, unlike, shows_unlike and shrunk."""

import itertools
import random
import unittest

from leastjournal.errors import JournalError, NotEnough
from leastjournal.field import rank
from leastjournal.losses import loss, pushes
from leastjournal.plans import is_plan, own_plan, shows_unlike, shrunk, sufficient, unlike
from leastjournal.programs import reads_before, step_count
from tests.helpers import GREAT, JUNK, READ, SET, WRITE, deep_junk, frozen, loop, random_program, variants
from tests.reference import (
    all_histories,
    great_forms,
    great_moments,
    great_run,
    played,
    pushing_steps,
    quiet_great_programs,
    reads_of,
    steps_of,
    tiny_programs,
)
from tests.test_losses import with_reads
from tests.test_readable import is_pair

P = (("copy", 1, 0), ("add", 0, 1, 4), ("read", 0))
L = (("loop", 10 ** 18, (("copy", 2, 1), ("copy", 1, 0), ("set", 0, 0))),)


def drawn_plan(chance, n, moments, most):
    """Return a plan over some of these moments."""
    entries = {(chance.choice(moments), chance.randrange(n)) for _ in range(chance.randrange(most + 1))}
    return tuple(sorted(entries))


def joined(*plans):
    return tuple(sorted({entry for plan in plans for entry in plan}))


def is_enough(p, n, program, moment, plan):
    """Whether a plan is sufficient, by the rank of forms found with matrices."""
    reads = reads_before(program, moment)
    tables = {}
    for time in {moment, *[time for time, _ in plan]}:
        tables[time] = [tuple(form[1:]) for form in great_forms(p, n, program, time, reads)]
    rows = (*tables[moment], *[tables[time][x] for time, x in plan])
    return rank(p, rows) == n + reads


def is_enough_for_all(p, n, program, moment, plan):
    """Whether a plan is sufficient, by all histories."""
    steps = tuple(steps_of(program)[:moment])
    seen = set()
    histories = all_histories(p, n, reads_of(steps))
    for history in histories:
        run = played(p, steps, *history)
        seen.add((run[moment][0], *[run[time][0][x] for time, x in plan]))
    return len(seen) == len(histories)


def plainly_shrunk(plan, enough):
    """Return what is left of a plan by the words of the document."""
    left = list(plan)
    for entry in reversed(plan):
        rest = [other for other in left if other != entry]
        if enough(tuple(rest)):
            left = rest
    return tuple(left)


def right_unlike(p, n, program, moment, plan, value):
    """Whether a value is a pair of unlike histories that the plan cannot tell apart."""
    reads = reads_before(program, moment)
    if type(value) is not tuple or len(value) != 2 or not all(is_pair(p, n, reads, one) for one in value):
        return False
    shown = []
    for history in value:
        times = [*plan, *[(moment, x) for x in range(n)]]
        states = {time: great_run(p, program, *history, time)[0] for time, _ in times}
        shown.append([states[time][x] for time, x in times])
    return value[0] != value[1] and shown[0] == shown[1]


class IsPlanTest(unittest.TestCase):
    def check(self, expected, n, program, moment, value):
        before = frozen((program, value))
        self.assertIs(is_plan(n, program, moment, value), expected, (n, program, moment, value))
        self.assertEqual(frozen((program, value)), before)

    def test_good(self):
        for plan in (
            (),
            ((0, 0),),
            ((3, 1),),
            ((0, 0), (0, 1)),
            ((0, 1), (1, 0)),
            ((0, 0), (0, 1), (1, 0), (1, 1), (2, 0), (2, 1), (3, 0), (3, 1)),
        ):
            self.check(True, 2, P, 3, plan)

    def test_names_of_arguments(self):
        self.assertIs(is_plan(value=((0, 1),), moment=3, program=P, n=2), True)
        self.assertIs(is_plan(value=((0, 2),), moment=3, program=P, n=2), False)

    def test_bad(self):
        for value in (
            ((0, 1), (0, 0)),
            ((1, 0), (0, 1)),
            ((0, 0), (0, 0)),
            ((0, 0), (1, 1), (1, 1)),
            ((0, 0), (1, 1), (0, 0)),
            ((4, 0),),
            ((0, 2),),
            ((-1, 0),),
            ((0, -1),),
            ((10 ** 79, 0),),
            ((0, 10 ** 79),),
            ((True, 0),),
            ((0, True),),
            ((False, 0),),
            ((0, False),),
            ((0, 0), (True, 0)),
            ([0, 0],),
            [(0, 0)],
            [],
            ((0,),),
            ((0, 0, 0),),
            ((),),
            (0, 0),
            (0, (0, 0)),
            ("00",),
            (("0", 0),),
            ((0, None),),
            ((None, 0),),
            (((0,), 0),),
            (((0, 0),),),
            "",
            {},
            {(0, 0): 0},
            None,
            0,
            ((0, 0), None),
            ((0, 1), [1, 0]),
            ((0, "a"), ("b", 0)),
            ((0, (1,)), (1, 0)),
            ((0, {}), (0, {})),
        ):
            self.check(False, 2, P, 3, value)

    def test_moment_and_registers(self):
        for moment, n in itertools.product(range(4), (2, 3, 8)):
            for time, x in itertools.product(range(-1, 6), range(-1, 10)):
                self.check(0 <= time <= moment and 0 <= x < n, n, P, moment, ((time, x),))

    def test_great_moments(self):
        program = (loop(GREAT, loop(GREAT, loop(GREAT, loop(GREAT, SET)))),)
        end = GREAT ** 4
        for moment in (0, GREAT, GREAT + 5, end - 1, end):
            self.check(True, 2, program, moment, ((moment, 0), (moment, 1)))
            self.check(False, 2, program, moment, ((moment + 1, 0),))
            self.check(False, 2, program, moment, ((moment, 1), (moment, 0)))
            self.check(True, 2, program, moment, joined(((0, 0), (moment // 2, 1), (moment, 0))))

    def test_one_part_changed(self):
        plan = ((0, 1), (1, 0), (1, 1), (2, 0))
        for value in variants(plan):
            expected = (
                type(value) is tuple
                and all(type(part) is tuple and [type(number) for number in part] == [int, int] for part in value)
                and all(0 <= time <= 3 and 0 <= x <= 1 for time, x in value)
                and list(value) == sorted(set(value))
            )
            self.check(expected, 2, P, 3, value)

    def test_values_of_any_kind(self):
        for value in (*JUNK, *deep_junk(), 0, 1, -1, 10 ** 79):
            self.check(value == () and isinstance(value, tuple), 2, P, 3, value)
            self.check(False, 2, P, 3, (value,))
            number = type(value) is int and value in (0, 1)
            self.check(number, 2, P, 3, ((0, value),))
            self.check(number, 2, P, 3, ((value, 0),))
            self.check(False, 2, P, 3, ((0, 0), value))
            self.check(value == () and isinstance(value, tuple), 3, L, 3 * GREAT, value)


class OwnPlanTest(unittest.TestCase):
    def check(self, p, n, program, moment):
        before = frozen(program)
        plan = own_plan(p, n, program, moment)
        self.assertEqual(plan, pushes(p, n, program, moment))
        self.assertIs(is_plan(n, program, moment, plan), True)
        self.assertEqual(len(plan), loss(p, n, program, moment))
        self.assertIs(sufficient(p, n, program, moment, plan), True)
        self.assertIsNone(unlike(p, n, program, moment, plan))
        self.assertEqual(shrunk(p, n, program, moment, plan), plan)
        self.assertEqual(frozen(program), before)
        return plan

    def test_example(self):
        self.assertEqual(own_plan(5, 2, P, 3), ((0, 1),))
        self.assertEqual(own_plan(moment=3, program=P, n=2, p=5), ((0, 1),))
        self.assertEqual(self.check(7, 3, L, 3 * GREAT), ((0, 2), (3, 2), (6, 2)))

    def test_all_histories(self):
        for p, n, reads in ((2, 1, 3), (2, 2, 2), (2, 3, 2), (3, 2, 1)):
            for program in tiny_programs(p, n, reads, 10, 300 + p + n, 9):
                pushed = pushing_steps(p, n, program)
                for moment in range(step_count(program) + 1):
                    plan = self.check(p, n, program, moment)
                    self.assertEqual(plan, tuple(one for one in pushed if one[0] < moment))
                    self.assertTrue(is_enough_for_all(p, n, program, moment, plan))

    def test_great_loops(self):
        chance = random.Random(301)
        for p, n, program in (*quiet_great_programs(20, 302), *with_reads(20, 303)):
            for moment in great_moments(chance, program, 2)[::4]:
                self.assertTrue(is_enough(p, n, program, moment, self.check(p, n, program, moment)))

    def test_many_reads(self):
        """A result may be passed in again, whatever its size."""
        for program in (
            (loop(2000, READ, ("add", 1, 0, 3), WRITE),),
            (loop(1000, READ, ("add", 1, 0, 3), loop(GREAT, ("add", 2, 1, 1), ("swap", 0, 2)), ("read", 1)),),
        ):
            end = step_count(program)
            plan = self.check(10007, 3, program, end)
            self.assertGreater(len(plan), 1990)
            for missing in (0, 1000, len(plan) - 1):
                less = plan[:missing] + plan[missing + 1:]
                self.assertIs(sufficient(10007, 3, program, end, less), False)
                pair = unlike(10007, 3, program, end, less)
                self.assertIs(shows_unlike(10007, 3, program, end, less, pair), True)
                self.assertEqual(great_run(10007, program, *pair[0])[0], great_run(10007, program, *pair[1])[0])
            more = joined(plan, [(end // 7 * k, 1) for k in range(8)], [(end, 0)])
            self.assertEqual(len(shrunk(10007, 3, program, end, more)), len(plan))


class SufficientTest(unittest.TestCase):
    def check(self, p, n, program, moment, plan, expected):
        """Check sufficient, unlike, shows_unlike and shrunk for a plan."""
        before = frozen((program, plan))
        question = (p, n, program, moment, plan)
        self.assertIs(sufficient(*question), expected, question)
        pair = unlike(*question)
        if expected:
            self.assertIsNone(pair)
            self.assertGreaterEqual(len(plan), loss(p, n, program, moment))
            left = shrunk(*question)
            self.assertEqual(len(left), loss(p, n, program, moment))
            self.assertLessEqual(set(left), set(plan))
            self.assertIs(is_plan(n, program, moment, left), True)
            self.assertIs(sufficient(p, n, program, moment, left), True)
        else:
            self.assertTrue(right_unlike(*question, pair), (question, pair))
            self.assertIs(shows_unlike(*question, pair), True)
            with self.assertRaises(NotEnough) as caught:
                shrunk(*question)
            self.assertIs(type(caught.exception), NotEnough)
        self.assertEqual(frozen((program, plan)), before)

    def test_example(self):
        self.assertIs(sufficient(5, 2, P, 3, ()), False)
        self.assertEqual(shrunk(5, 2, P, 3, ((0, 0), (0, 1), (1, 0))), ((0, 1),))
        with self.assertRaises(NotEnough):
            shrunk(5, 2, P, 3, ((0, 0), (1, 0)))

    def test_names_of_arguments(self):
        plan = ((0, 0), (0, 1), (1, 0))
        self.assertIs(sufficient(plan=plan, moment=3, program=P, n=2, p=5), True)
        self.assertIsNone(unlike(plan=plan, moment=3, program=P, n=2, p=5))
        self.assertEqual(shrunk(plan=plan, moment=3, program=P, n=2, p=5), ((0, 1),))
        pair = unlike(plan=(), moment=3, program=P, n=2, p=5)
        self.assertEqual(pair, unlike(5, 2, P, 3, ()))
        self.assertIs(shows_unlike(value=pair, plan=(), moment=3, program=P, n=2, p=5), True)
        with self.assertRaises(NotEnough):
            shrunk(plan=(), moment=3, program=P, n=2, p=5)

    def test_kinds_of_values(self):
        pair = unlike(5, 2, P, 3, ())
        self.assertEqual([type(part) for part in (pair, *pair, *pair[0], *pair[1])], [tuple] * 7)
        self.assertEqual({type(part) for history in pair for row in history for part in row}, {int})
        left = shrunk(5, 2, P, 3, ((0, 0), (0, 1)))
        self.assertEqual([type(part) for part in (left, left[0], *left[0])], [tuple, tuple, int, int])

    def test_all_histories(self):
        chance = random.Random(310)
        counts = [0, 0]
        for p, n, reads, many in ((2, 1, 3, 12), (2, 2, 2, 20), (2, 3, 2, 15), (3, 1, 2, 10), (3, 2, 1, 15)):
            for program in tiny_programs(p, n, reads, many, 311 + p + n, 9):
                end = step_count(program)
                for moment in {end, chance.randrange(end + 1), chance.randrange(end + 1)}:
                    own = own_plan(p, n, program, moment)
                    some = [drawn_plan(chance, n, range(moment + 1), 6) for _ in range(4)]
                    for plan in ((), own, own[1:], *some, joined(own, some[0]), joined(own[1:], some[1])):
                        expected = is_enough_for_all(p, n, program, moment, plan)
                        self.check(p, n, program, moment, plan, expected)
                        counts[expected] += 1
        self.assertGreater(min(counts), 300)

    def test_every_plan_of_tiny_programs(self):
        """No sufficient plan has fewer entries than the loss; each contains one of exactly that many."""
        for program in ((("copy", 1, 0), READ), (("set", 0, 1), READ), (READ, ("add", 1, 0, 1)), (SET, ("swap", 0, 1))):
            entries = [(time, x) for time in range(3) for x in range(2)]
            for many in range(len(entries) + 1):
                for plan in itertools.combinations(entries, many):
                    self.check(2, 2, program, 2, plan, is_enough_for_all(2, 2, program, 2, plan))

    def test_greater_primes(self):
        chance = random.Random(312)
        counts = [0, 0]
        for p, n in itertools.product((5, 101, 10007), (1, 2, 3, 5, 8)):
            for _ in range(5):
                program = random_program(chance, p, n, 3, 5)
                if step_count(program) > 80:
                    continue
                moment = chance.randrange(step_count(program) + 1)
                own = own_plan(p, n, program, moment)
                some = [drawn_plan(chance, n, range(moment + 1), 2 * n) for _ in range(3)]
                for plan in (own, own[:-1], *some, joined(own, some[0]), joined(own[1:], some[1])):
                    expected = is_enough(p, n, program, moment, plan)
                    self.check(p, n, program, moment, plan, expected)
                    counts[expected] += 1
        self.assertGreater(min(counts), 60)

    def test_great_loops(self):
        chance = random.Random(313)
        counts = [0, 0]
        for p, n, program in (*quiet_great_programs(25, 314), *with_reads(25, 315), (7, 3, L)):
            times = great_moments(chance, program, 4)
            for moment in chance.sample(times, min(3, len(times))):
                own = own_plan(p, n, program, moment)
                some = [drawn_plan(chance, n, [t for t in times if t <= moment], 8) for _ in range(2)]
                for plan in ((), own[1:], *some, joined(own, some[0]), joined(own[1:], some[1])):
                    expected = is_enough(p, n, program, moment, plan)
                    self.check(p, n, program, moment, plan, expected)
                    counts[expected] += 1
        self.assertGreater(min(counts), 100)

    def test_entries_at_the_moment_itself_tell_nothing(self):
        chance = random.Random(316)
        for p, n, program in (*quiet_great_programs(10, 317), *with_reads(10, 318), (5, 2, P), (7, 3, L)):
            end = step_count(program)
            last = tuple((end, x) for x in range(n))
            own = own_plan(p, n, program, end)
            self.check(p, n, program, end, last, own == ())
            self.check(p, n, program, end, joined(own, last), True)
            self.assertEqual(shrunk(p, n, program, end, joined(own, last)), own)
            if own:
                gone = own[:-1] if chance.randrange(2) else own[1:]
                self.check(p, n, program, end, joined(gone, last), False)

    def test_empty_plans(self):
        for program, moment, expected in (
            ((), 0, True),
            ((loop(GREAT),), 0, True),
            ((("swap", 0, 1), ("add", 0, 1, 2)), 2, True),
            ((loop(GREAT, ("swap", 0, 1), ("add", 0, 1, 2)),), 2 * GREAT, True),
            ((SET,), 0, True),
            ((SET,), 1, False),
            ((READ,), 1, False),
            ((("scale", 0, 0),), 1, False),
            ((("scale", 0, 2),), 1, True),
            (L, 3 * GREAT, False),
        ):
            self.check(5, 3, program, moment, (), expected)

    def test_far_into_a_great_loop(self):
        # The shift keeps r0 of moment 0 for two rounds; behind that it is nowhere.
        for time, x, expected in ((0, 0, True), (3, 1, True), (6, 2, True), (7, 2, False), (9, 2, False), (GREAT, 0, False)):
            plan = joined(((0, 1), (0, 2)), ((time, x),))
            self.check(7, 3, L, 3 * GREAT, plan, expected)
            self.assertEqual(is_enough(7, 3, L, 3 * GREAT, plan), expected)
        # r0 adds up r1, which is overwritten behind the loop: any two moments of it tell r1 for p above 2.
        program = (loop(GREAT, ("add", 0, 1, 1)), ("set", 1, 0), ("set", 0, 0))
        for one, other, expected in (
            (0, 1, True),
            (0, 7, False),
            (5, GREAT // 2, (GREAT // 2 - 5) % 7 != 0),
            (GREAT - 7, GREAT, False),
            (GREAT - 8, GREAT, True),
        ):
            self.check(7, 2, program, GREAT + 2, ((one, 0), (other, 0)), expected)


class ShrunkTest(unittest.TestCase):
    def check(self, p, n, program, moment, plan, enough):
        before = frozen((program, plan))
        if enough(plan):
            expected = plainly_shrunk(plan, enough)
            self.assertEqual(shrunk(p, n, program, moment, plan), expected, (p, n, program, moment, plan))
            self.assertEqual(len(expected), loss(p, n, program, moment))
        else:
            with self.assertRaises(JournalError) as caught:
                shrunk(p, n, program, moment, plan)
            self.assertIs(type(caught.exception), NotEnough)
        self.assertEqual(frozen((program, plan)), before)

    def test_from_the_last_one_to_the_first(self):
        # Each of the entries alone is enough, so the first one is left.
        for plan in (((0, 1), (1, 1), (2, 1)), ((1, 1), (2, 1)), ((2, 1),)):
            program = (("add", 0, 2, 1), ("swap", 0, 2), ("set", 1, 0))
            self.assertEqual(shrunk(5, 3, program, 3, plan), plan[:1])
        everything = tuple((time, x) for time in range(4) for x in range(2))
        self.assertEqual(shrunk(5, 2, P, 3, everything), ((0, 1),))
        self.assertEqual(shrunk(5, 2, P, 0, ((0, 0), (0, 1))), ())
        self.assertEqual(shrunk(5, 2, (), 0, ()), ())

    def test_all_histories(self):
        chance = random.Random(320)
        for p, n, reads in ((2, 1, 3), (2, 2, 2), (2, 3, 2), (3, 2, 1)):
            for program in tiny_programs(p, n, reads, 12, 321 + p + n, 8):
                moment = step_count(program)
                own = own_plan(p, n, program, moment)
                for _ in range(3):
                    some = drawn_plan(chance, n, range(moment + 1), 6)
                    for plan in (some, joined(own, some), joined(own[1:], some)):
                        self.check(
                            p, n, program, moment, plan,
                            lambda rest: is_enough_for_all(p, n, program, moment, rest),
                        )

    def test_all_entries(self):
        """The plan that saves everything is sufficient, and shrinks to as many entries as the loss."""
        for p, n, reads in ((2, 3, 3), (5, 2, 3), (10007, 4, 3)):
            for program in tiny_programs(p, n, reads, 8, 322 + p + n, 10):
                end = step_count(program)
                for moment in {0, end // 2, end}:
                    plan = tuple((time, x) for time in range(moment + 1) for x in range(n))
                    self.check(p, n, program, moment, plan, lambda rest: is_enough(p, n, program, moment, rest))

    def test_great_loops(self):
        chance = random.Random(323)
        for p, n, program in (*quiet_great_programs(15, 324), *with_reads(15, 325), (7, 3, L)):
            times = great_moments(chance, program, 3)
            moment = chance.choice(times)
            own = own_plan(p, n, program, moment)
            some = [drawn_plan(chance, n, [t for t in times if t <= moment], 5) for _ in range(2)]
            for plan in (some[0], joined(own, some[0]), joined(own[1:], some[1])):
                self.check(p, n, program, moment, plan, lambda rest: is_enough(p, n, program, moment, rest))


class ShowsUnlikeTest(unittest.TestCase):
    def check(self, expected, p, n, program, moment, plan, value):
        before = frozen((program, plan, value))
        answer = shows_unlike(p, n, program, moment, plan, value)
        self.assertIs(answer, expected, (p, n, program, moment, plan, value))
        self.assertEqual(frozen((program, plan, value)), before)

    def test_by_hand(self):
        good = (((1, 2), (3,)), ((1, 4), (3,)))
        for value, expected in (
            (good, True),
            (good[::-1], True),
            ((good[0], good[0]), False),
            ((((1, 2), (3,)), ((1, 4), (2,))), False),
            ((((1, 2), (3,)), ((0, 4), (3,))), False),
            ((((1, 2), ()), ((1, 4), ())), False),
            ((((1, 2), (3, 0)), ((1, 4), (3, 0))), False),
            ((((1, 2, 0), (3,)), ((1, 4, 0), (3,))), False),
            ((((1, 2), (3,)), ((1, 7), (3,))), False),
            ((((1, 2), (3,)), ((1, -1), (3,))), False),
            ((((True, 2), (3,)), ((True, 4), (3,))), False),
            ((((1, True), (3,)), ((1, 4), (3,))), False),
            ((((1, 1), (3,)), ((1, True), (3,))), False),
            ((((1, 2), (True,)), ((1, 4), (True,))), False),
            ((((1, 2), [3]), ((1, 4), [3])), False),
            ((([1, 2], (3,)), ([1, 4], (3,))), False),
            (list(good), False),
            (([(1, 2), (3,)], [(1, 4), (3,)]), False),
            (good + (good[0],), False),
            (good[:1], False),
            ((good,), False),
            (None, False),
        ):
            self.check(expected, 5, 2, P, 3, (), value)
            self.check(expected, 5, 2, P, 3, ((0, 0), (1, 0), (3, 1)), value)
            self.check(False, 5, 2, P, 3, ((0, 1),), value)

    def test_all_pairs(self):
        chance = random.Random(330)
        for p, n, reads in ((2, 2, 1), (3, 1, 1), (2, 1, 2), (3, 2, 0)):
            for program in tiny_programs(p, n, reads, 6, 331 + p + n, 6):
                moment = chance.randrange(step_count(program) + 1)
                histories = all_histories(p, n, reads_before(program, moment))
                for plan in ((), *[drawn_plan(chance, n, range(moment + 1), 3) for _ in range(2)]):
                    for value in itertools.product(histories, repeat=2):
                        expected = right_unlike(p, n, program, moment, plan, value)
                        self.check(expected, p, n, program, moment, plan, value)

    def test_one_part_changed(self):
        chance = random.Random(332)
        questions = []
        for p, n, reads in ((2, 2, 2), (3, 2, 2), (5, 3, 2)):
            for program in tiny_programs(p, n, reads, 8, 333 + p + n, 8):
                questions.append((p, n, program, range(step_count(program) + 1)))
        for p, n, program in (*quiet_great_programs(8, 334), *with_reads(8, 335), (7, 3, L)):
            questions.append((p, n, program, great_moments(chance, program, 2)))
        right = wrong = 0
        for p, n, program, times in questions:
            moment = times[-1]
            plan = drawn_plan(chance, n, times, 2)
            pair = unlike(p, n, program, moment, plan)
            if pair is None:
                history = (chance.choices(range(p), k=n), chance.choices(range(p), k=reads_before(program, moment)))
                history = (tuple(history[0]), tuple(history[1]))
                pair = (history, history)
            for value in (pair, *variants(pair)):
                expected = right_unlike(p, n, program, moment, plan, value)
                self.check(expected, p, n, program, moment, plan, value)
                right += expected
                wrong += not expected
        self.assertGreater(right, 30)
        self.assertGreater(wrong, 1000)

    def test_values_of_any_kind(self):
        history = ((1, 2), (3,))
        for value in (*JUNK, *deep_junk(), 0, 1, -1, 10 ** 79):
            for whole in (value, (value, value), (history, value), (value, history), (history, ((1, 4), value))):
                self.check(False, 5, 2, P, 3, (), whole)
            self.check(False, 5, 2, P, 3, (), (history, (value, (3,))))
            self.check(False, 7, 3, L, 3 * GREAT, (), value)


if __name__ == "__main__":
    unittest.main()
