"""Points 2, 4 and 14: differ and shows_differ."""

import itertools
import random
import unittest

from leastjournal.backward import backward
from leastjournal.programs import step_count
from leastjournal.same import differ, shows_differ
from tests.helpers import GREAT, JUNK, READ, SET, WRITE, deep_junk, frozen, loop, random_program, random_step, variants
from tests.reference import (
    all_histories,
    drawn,
    great_forms,
    great_run,
    length,
    played,
    quiet_great_programs,
    tiny_programs,
)
from tests.test_losses import with_reads
from tests.test_readable import is_pair

SWAP = (("swap", 0, 1),)
ADDS = (("add", 0, 1, 1), ("add", 1, 0, 6), ("add", 0, 1, 1), ("scale", 1, 6))


def many_of(program, word):
    """Return how many steps with this word a program executes."""
    return sum(
        part[1] * many_of(part[2], word) if part[0] == "loop" else part[0] == word for part in program
    )


def outcome(p, program, history):
    """Return the registers and the outputs at the end."""
    return great_run(p, program, *history)[:2]


def right_differ(p, n, one, other, value):
    """Whether a value shows that two programs differ, by the words of the document."""
    if type(value) is not tuple or len(value) != 3 or type(value[0]) is not str:
        return False
    for word, name in (("read", "reads"), ("write", "writes")):
        counts = (many_of(one, word), many_of(other, word))
        if counts[0] != counts[1]:
            return [type(part) for part in value[1:]] == [int, int] and value == (name, *counts)
    if value[0] != "history" or not is_pair(p, n, many_of(one, "read"), value[1:]):
        return False
    return outcome(p, one, value[1:]) != outcome(p, other, value[1:])


def split(chance, p, n, part):
    """Return a loop as two loops, cut at any round."""
    k = chance.choice((0, 1, part[1] // 2, part[1] - 1, part[1], chance.randrange(part[1] + 1)))
    k = min(max(0, k), part[1])
    return [("loop", k, part[2]), ("loop", part[1] - k, part[2])]


def factored(chance, p, n, part):
    """Return a loop as a loop in a loop, or a loop in a loop as one loop."""
    body = part[2]
    if len(body) == 1 and body[0][0] == "loop" and part[1] * body[0][1] <= GREAT:
        return [("loop", part[1] * body[0][1], body[0][2])]
    divisors = [k for k in (1, 2, 3, 5, 7, 10, 10 ** 6, 10 ** 9, part[1]) if k and part[1] % k == 0]
    k = chance.choice(divisors or [1])
    return [("loop", k, (("loop", part[1] // k, body),))]


def written_out(chance, p, n, part):
    """Return a loop with a round or two in front of it or behind it."""
    k = min(part[1], chance.randrange(3))
    rest = ("loop", part[1] - k, part[2])
    return [*part[2] * k, rest] if chance.randrange(2) else [rest, *part[2] * k]


def idle(chance, p, n):
    """Return instructions that change nothing."""
    x = chance.randrange(n)
    step = random_step(chance, p, n)
    choices = [
        [("scale", x, 1)],
        [("loop", GREAT, ())],
        [("loop", 0, (step,))],
        [("loop", GREAT, (("loop", 0, (step,)), ("scale", x, 1)))],
        [("loop", p, (("scale", x, 1),))],
    ]
    if n > 1:
        y = (x + 1) % n
        choices += [[("swap", x, y)] * 2, [("add", x, y, 1), ("add", x, y, p - 1)], [("loop", p, (("add", x, y, 1),))]]
        choices += [[("loop", GREAT, (("swap", x, y),))]]
    return chance.choice(choices)


def moved(first, second):
    """Whether two neighbours may be exchanged: they have no register in common, and are not both reads or writes."""
    if first[0] == "loop" or second[0] == "loop" or first[0] == second[0] in ("read", "write"):
        return False
    used = []
    for step in (first, second):
        many = 2 if step[0] in ("copy", "add", "swap") else 1
        used.append(set(step[1:1 + many]))
    return not used[0] & used[1]


def rewritten(chance, p, n, program):
    """Return a program that does the same."""
    found = []
    for part in program:
        if chance.randrange(5) == 0:
            found += idle(chance, p, n)
        if part[0] == "loop":
            part = ("loop", part[1], rewritten(chance, p, n, part[2]))
            change = chance.choice((split, factored, written_out, None))
            found += [part] if change is None else change(chance, p, n, part)
        elif found and moved(found[-1], part) and chance.randrange(2):
            found.insert(-1, part)
        else:
            found.append(part)
    if chance.randrange(5) == 0:
        found += idle(chance, p, n)
    return tuple(found)


def mutated(chance, p, n, program):
    """Return the program with one instruction replaced, left out, repeated or exchanged with the next one."""
    program = list(program)
    if not program:
        return (random_step(chance, p, n),)
    at = chance.randrange(len(program))
    part = program[at]
    if part[0] == "loop" and chance.randrange(3):
        rounds = chance.choice((part[1], part[1], part[1] + 1, max(0, part[1] - 1)))
        body = mutated(chance, p, n, part[2]) if rounds == part[1] else part[2]
        program[at] = ("loop", rounds, body)
        return tuple(program)
    how = chance.randrange(5)
    if how == 0:
        del program[at]
    elif how == 1:
        program.insert(at, part)
    elif how == 2:
        program[at:at + 2] = program[at:at + 2][::-1]
    elif part[0] in ("read", "write"):
        program[at] = (part[0], chance.randrange(n))
    else:
        program[at] = random_step(chance, p, n)
    return tuple(program)


class DifferCase(unittest.TestCase):
    def ask(self, p, n, one, other):
        """Return what differ answers; it is right if it is not None."""
        before = frozen((one, other))
        answer = differ(p, n, one, other)
        self.assertEqual(frozen((one, other)), before)
        if answer is None:
            self.assertIs(shows_differ(p, n, one, other, None), False)
        else:
            self.assertTrue(right_differ(p, n, one, other, answer), (p, n, one, other, answer))
            self.assertIs(shows_differ(p, n, one, other, answer), True)
        self.assertEqual(frozen((one, other)), before)
        return answer


class DifferTest(DifferCase):
    def test_example(self):
        self.assertIsNone(differ(7, 2, SWAP, ADDS))
        self.assertIsNone(self.ask(7, 2, ADDS, SWAP))

    def test_names_of_arguments(self):
        self.assertIsNone(differ(other=ADDS, one=SWAP, n=2, p=7))
        self.assertEqual(differ(other=(READ,), one=(), n=1, p=7), ("reads", 0, 1))
        answer = differ(7, 2, SWAP, ())
        self.assertEqual(differ(other=(), one=SWAP, n=2, p=7), answer)
        self.assertIs(shows_differ(value=answer, other=(), one=SWAP, n=2, p=7), True)
        self.assertIs(shows_differ(value=("reads", 1, 0), other=(), one=(READ,), n=2, p=7), True)
        self.assertIs(shows_differ(value=("reads", 1, 0), other=(READ,), one=(), n=2, p=7), False)

    def test_kinds_of_values(self):
        answer = differ(7, 2, (READ, *SWAP), (READ,))
        self.assertEqual([type(part) for part in (answer, *answer)], [tuple, str, tuple, tuple])
        self.assertEqual([type(part) for part in (*answer[1], *answer[2])], [int] * 3)
        answer = differ(7, 2, (READ,), ())
        self.assertEqual([type(part) for part in (answer, *answer)], [tuple, str, int, int])

    def test_counts(self):
        for one, other, expected in (
            ((READ,), (), ("reads", 1, 0)),
            ((), (READ,), ("reads", 0, 1)),
            ((WRITE,), (), ("writes", 1, 0)),
            ((), (WRITE, WRITE), ("writes", 0, 2)),
            ((READ, WRITE), (READ, READ), ("reads", 1, 2)),
            ((READ, WRITE), (WRITE,), ("reads", 1, 0)),
            ((loop(2000, READ, WRITE),), (loop(1999, READ, WRITE), READ), ("writes", 2000, 1999)),
            ((loop(0, READ), WRITE), (loop(GREAT), loop(3, WRITE)), ("writes", 1, 3)),
            ((loop(40, loop(50, READ)),), (loop(2, loop(5, READ)),), ("reads", 2000, 10)),
            ((SET, WRITE), (("set", 0, 1),), ("writes", 1, 0)),
        ):
            self.assertEqual(self.ask(5, 2, one, other), expected)

    def test_by_hand(self):
        same = (
            ((), ()),
            ((), (loop(GREAT), loop(0, READ, WRITE))),
            ((SET, ("set", 1, 0)), (SET, ("copy", 1, 0))),
            ((SET,), (("scale", 0, 0),)),
            ((WRITE, ("read", 1)), (("read", 1), WRITE)),
            ((WRITE, WRITE, ("read", 1), ("read", 1)), (("read", 1), WRITE, ("read", 1), WRITE)),
            ((("copy", 1, 0), READ, ("write", 1)), (("copy", 1, 0), WRITE, READ)),
            ((loop(5, ("add", 0, 1, 1)),), ()),
            ((loop(GREAT, loop(5, ("add", 0, 1, 1))),), ()),
            ((READ, SET), (READ, ("copy", 0, 1), SET)),
        )
        for one, other in same:
            self.assertIsNone(self.ask(5, 2, one, other), (one, other))
            self.assertIsNone(self.ask(5, 2, other, one), (one, other))
        unlike = (
            ((), SWAP),
            ((SET,), (("set", 0, 1),)),
            ((WRITE,), (("write", 1),)),
            ((WRITE, SET), (SET, WRITE)),
            ((WRITE, READ), (READ, WRITE)),
            ((WRITE, READ, SET), (READ, WRITE, SET)),
            ((READ, ("read", 1)), (("read", 1), READ)),
            ((READ, WRITE, READ), (READ, READ, WRITE)),
            ((loop(4, ("add", 0, 1, 1)),), ()),
            ((loop(GREAT, ("scale", 0, 2)),), (loop(GREAT - 1, ("scale", 0, 2)),)),
            # Only the second of two outputs is unlike, and only for the second of two inputs.
            ((READ, WRITE, READ, WRITE, SET), (READ, WRITE, READ, ("scale", 0, 2), WRITE, SET)),
            # One has written it long before; the other cannot write it any more.
            ((READ, WRITE, ("read", 1), ("write", 1), SET), (READ, ("read", 1), SET, WRITE, ("write", 1))),
            ((READ, WRITE, READ, SET), (READ, READ, SET, WRITE)),
            ((READ, ("add", 1, 0, 1), WRITE, READ, SET), (READ, ("add", 1, 0, 1), READ, SET, WRITE)),
            (
                (READ, ("add", 1, 0, 1), ("scale", 0, 2), WRITE, READ, SET),
                (READ, ("add", 1, 0, 1), READ, SET, ("write", 1)),
            ),
        )
        for one, other in unlike:
            for pair in ((one, other), (other, one)):
                self.assertEqual(self.ask(5, 2, *pair)[0], "history", pair)

    def test_all_histories(self):
        """The answer is None exactly if no history tells the programs apart."""
        chance = random.Random(500)
        counts = {None: 0, "history": 0, "reads": 0, "writes": 0}
        only_outputs = 0
        for p, n, reads, many in ((2, 1, 3, 40), (2, 2, 3, 60), (2, 3, 2, 40), (3, 1, 2, 30), (3, 2, 2, 40)):
            for one in tiny_programs(p, n, reads, many, 501 + p + n, 10):
                for other in (rewritten(chance, p, n, one), mutated(chance, p, n, one), mutated(chance, p, n, one)):
                    answer = self.ask(p, n, one, other)
                    counts[answer and answer[0]] += 1
                    taken = [many_of(program, "read") for program in (one, other)]
                    if taken[0] != taken[1]:
                        self.assertEqual(answer, ("reads", *taken))
                        continue
                    written = [many_of(program, "write") for program in (one, other)]
                    if written[0] != written[1]:
                        self.assertEqual(answer, ("writes", *written))
                        continue
                    ends = [
                        [great_run(p, program, *history)[:2] for program in (one, other)]
                        for history in all_histories(p, n, taken[0])
                    ]
                    unlike = [pair for pair in ends if pair[0] != pair[1]]
                    self.assertEqual(answer is None, unlike == [], (p, n, one, other))
                    only_outputs += bool(unlike) and all(pair[0][0] == pair[1][0] for pair in unlike)
        self.assertGreater(min(counts.values()), 20)
        self.assertGreater(only_outputs, 5)

    def test_drawn_pairs(self):
        """Programs with as many reads and writes that have little in common, against all histories."""
        chance = random.Random(502)
        same = 0
        for p, n in ((2, 1), (2, 2), (3, 1)):
            steps = [
                step
                for word in ("set", "copy", "add", "scale", "swap", "read", "write")
                for step in {random_step(chance, p, n) for _ in range(200)}
                if step[0] == word
            ]
            programs = [tuple(chance.choices(steps, k=chance.randrange(5))) for _ in range(120)]
            for one, other in itertools.combinations(programs, 2):
                if any(many_of(one, word) != many_of(other, word) for word in ("read", "write")):
                    continue
                histories = all_histories(p, n, many_of(one, "read"))
                expected = all(played(p, one, *each)[-1] == played(p, other, *each)[-1] for each in histories)
                self.assertEqual(self.ask(p, n, one, other) is None, expected, (p, n, one, other))
                same += expected
        self.assertGreater(same, 30)

    def test_all_orders_of_some_steps(self):
        """Reads and writes at any distance from each other, against all histories."""
        counts = [0, 0]
        for p, n, steps in (
            (2, 1, (READ, READ, WRITE, SET)),
            (3, 1, (READ, WRITE, WRITE, ("scale", 0, 2))),
            (3, 2, (READ, ("read", 1), WRITE, ("add", 1, 0, 1))),
            (2, 2, (READ, READ, ("add", 1, 0, 1), WRITE, SET)),
            (2, 2, (READ, ("read", 1), ("write", 1), WRITE, ("copy", 0, 1))),
        ):
            orders = sorted(set(itertools.permutations(steps)))
            histories = all_histories(p, n, many_of(steps, "read"))
            ends = {one: [played(p, one, *history)[-1] for history in histories] for one in orders}
            for one, other in itertools.product(orders[::max(1, len(orders) // 24)], orders):
                answer = self.ask(p, n, one, other)
                self.assertEqual(answer is None, ends[one] == ends[other], (p, n, one, other))
                counts[answer is None] += 1
        self.assertGreater(min(counts), 200)

    def test_rewritten(self):
        chance = random.Random(503)
        for p, n, program in (*quiet_great_programs(40, 504), *with_reads(40, 505)):
            self.assertIsNone(self.ask(p, n, program, program))
            other = program
            for _ in range(3):
                other = rewritten(chance, p, n, other)
                self.assertIsNone(self.ask(p, n, program, other), (p, n, program, other))
                self.assertIsNone(self.ask(p, n, other, program), (p, n, program, other))

    def test_rewritten_with_writes(self):
        chance = random.Random(506)
        for _ in range(60):
            p, n = chance.choice((2, 3, 10007)), chance.randrange(1, 5)
            program = random_program(chance, p, n, 2, 5)
            quiet = ("loop", chance.choice((GREAT, GREAT - 1)), (random_quiet(chance, p, n), random_quiet(chance, p, n)))
            program = (*program[:2], quiet, *program[2:], quiet)
            other = rewritten(chance, p, n, program)
            if many_of(program, "write") <= 200:
                self.assertIsNone(self.ask(p, n, program, other), (p, n, program, other))

    def test_each_way_to_rewrite(self):
        body = (("add", 0, 1, 1), ("copy", 1, 2), ("add", 2, 0, 3))
        whole = (loop(GREAT, *body),)
        for k in (0, 1, 2, GREAT // 2, GREAT - 1, GREAT):
            for other in (
                (loop(k, *body), loop(GREAT - k, *body)),
                (loop(k, *body), loop(GREAT), loop(GREAT - k, ("swap", 0, 1), ("swap", 0, 1), *body)),
                (loop(GREAT - k, *body, ("scale", 1, 1)), loop(k, *body)),
            ):
                self.assertIsNone(self.ask(7, 3, whole, other))
        for k in (1, 2, 10, 10 ** 9, GREAT):
            self.assertIsNone(self.ask(7, 3, whole, (loop(k, loop(GREAT // k, *body)),)))
        for k in (0, 1, 2, 5):
            self.assertIsNone(self.ask(7, 3, (loop(k, *body),), body * k))
            self.assertIsNone(self.ask(7, 3, whole, (*body * k, loop(GREAT - k, *body))))
            self.assertIsNone(self.ask(7, 3, whole, (loop(GREAT - k, *body), *body * k)))
        nest = (loop(10 ** 5, loop(10 ** 5, loop(10 ** 4, loop(10 ** 4, *body)))),)
        self.assertIsNone(self.ask(7, 3, whole, nest))
        self.assertEqual(self.ask(7, 3, whole, (*nest, ("add", 0, 1, 1)))[0], "history")

    def test_great_loops_that_differ(self):
        chance = random.Random(507)
        unlike = 0
        for p, n, program in (*quiet_great_programs(40, 508), *with_reads(40, 509)):
            other = rewritten(chance, p, n, mutated(chance, p, n, program))
            if length(("loop", 1, other)) > GREAT ** 4 * 200 or many_of(other, "read") > 2000:
                continue
            answer = self.ask(p, n, program, other)
            taken = [many_of(one, "read") for one in (program, other)]
            if taken[0] == taken[1] and many_of(program, "write") == many_of(other, "write"):
                if many_of(program, "write") == 0:
                    tables = [great_forms(p, n, one, step_count(one), taken[0]) for one in (program, other)]
                    self.assertEqual(answer is None, tables[0] == tables[1])
                unlike += answer is not None
        self.assertGreater(unlike, 15)

    def test_many_reads_and_writes(self):
        body = (READ, ("add", 1, 0, 3), ("write", 1))
        whole = (loop(2000, *body),)
        for k in (0, 1, 999, 2000):
            self.assertIsNone(self.ask(10007, 2, whole, (loop(k, *body), loop(2000 - k, *body))))
        for k in (0, 1, 999, 1999):
            other = (loop(k, *body), READ, ("add", 1, 0, 3), WRITE, loop(1999 - k, *body))
            self.assertEqual(self.ask(10007, 2, whole, other)[0], "history")
        # The writes come long after the reads, or long before them.
        early = (loop(1000, WRITE), loop(1000, ("read", 1)))
        self.assertIsNone(self.ask(5, 2, early, (loop(1000, ("read", 1), WRITE),)))
        self.assertIsNone(self.ask(5, 2, early, (loop(1000, ("read", 1)), loop(1000, WRITE))))
        late = (loop(1000, READ), loop(1000, WRITE))
        self.assertEqual(self.ask(5, 2, (loop(1000, READ, WRITE),), late)[0], "history")
        self.assertEqual(self.ask(5, 2, early, late)[0], "history")

    def test_results_may_be_passed_in_again(self):
        program = (("set", 3, 0), loop(60, ("swap", 1, 2), READ, ("swap", 2, 3), *(("set", 4, 2),) * 5))
        back = backward(7, 5, program)
        self.assertGreater(len(back), 200)
        self.assertIsNone(self.ask(7, 5, back, back))
        self.assertIsNone(self.ask(7, 5, back, (*back[:100], loop(GREAT), *back[100:])))
        self.assertEqual(self.ask(7, 5, back, (*back, ("add", 0, 1, 1)))[0], "history")


def random_quiet(chance, p, n):
    """Return an instruction other than a loop, a read and a write."""
    while True:
        step = random_step(chance, p, n)
        if step[0] not in ("read", "write"):
            return step


class ShowsDifferTest(DifferCase):
    def check(self, expected, p, n, one, other, value):
        before = frozen((one, other, value))
        self.assertIs(shows_differ(p, n, one, other, value), expected, (p, n, one, other, value))
        self.assertEqual(frozen((one, other, value)), before)

    def test_counts(self):
        one, other = (READ, READ, READ, WRITE), (READ, WRITE, WRITE)
        for value, expected in (
            (("reads", 3, 1), True),
            (("reads", 1, 3), False),
            (("reads", 3, 2), False),
            (("reads", 3, True), False),
            (("writes", 1, 2), False),
            (("reads", 3), False),
            (("reads", 3, 1, 0), False),
            (["reads", 3, 1], False),
            (("reads", (3, 1)), False),
            (("reads", "3", "1"), False),
            (("Reads", 3, 1), False),
            (("history", (0, 0), (0, 0, 0)), False),
            (("history", (0, 0), (0,)), False),
            (None, False),
        ):
            self.check(expected, 5, 2, one, other, value)
        one, other = (READ, WRITE), (WRITE, loop(2, WRITE), READ)
        for value, expected in (
            (("writes", 1, 3), True),
            (("writes", True, 3), False),
            (("writes", 3, 1), False),
            (("reads", 1, 1), False),
            (("reads", 1, 3), False),
            (("history", (0, 1), (1,)), False),
        ):
            self.check(expected, 5, 2, one, other, value)
        # Equal numbers show nothing.
        for value in (("reads", 1, 1), ("writes", 1, 1), ("reads", 0, 0), ("writes", 0, 0), ("reads", True, True)):
            self.check(False, 5, 2, (READ, WRITE), (READ, WRITE), value)
            self.check(False, 5, 2, (READ, WRITE), (WRITE, READ), value)

    def test_histories(self):
        one, other = (READ, ("write", 1)), (READ, WRITE)
        for value, expected in (
            (("history", (0, 1), (0,)), True),
            (("history", (0, 0), (1,)), True),
            (("history", (4, 1), (1,)), False),
            (("history", (0, 0), (0,)), False),
            (("history", (0, True), (0,)), False),
            (("history", (0, 1), (False,)), False),
            (("history", (0, 6), (0,)), False),
            (("history", (0, -1), (0,)), False),
            (("history", (0, 1), (5,)), False),
            (("history", (0, 1), ()), False),
            (("history", (0, 1), (0, 0)), False),
            (("history", (0, 1, 0), (0,)), False),
            (("history", (1,), (0,)), False),
            (("history", [0, 1], (0,)), False),
            (("history", (0, 1), [0]), False),
            (("history", ((0, 1), (0,))), False),
            (("history", (0, 1), (0,), ()), False),
            (["history", (0, 1), (0,)], False),
            (((0, 1), (0,)), False),
            (("apart", (0, 1), (0,)), False),
            (("reads", 1, 1), False),
        ):
            self.check(expected, 5, 2, one, other, value)

    def test_all_histories(self):
        chance = random.Random(520)
        for p, n, reads in ((2, 2, 2), (3, 1, 2), (2, 3, 1)):
            for one in tiny_programs(p, n, reads, 20, 521 + p + n, 8):
                for other in (mutated(chance, p, n, one), rewritten(chance, p, n, one)):
                    for history in all_histories(p, n, many_of(one, "read")):
                        value = ("history", *history)
                        self.check(right_differ(p, n, one, other, value), p, n, one, other, value)

    def test_one_part_changed(self):
        chance = random.Random(522)
        pairs = []
        for p, n, reads in ((2, 2, 2), (3, 2, 2), (5, 3, 2)):
            for one in tiny_programs(p, n, reads, 15, 523 + p + n, 8):
                pairs.append((p, n, one, mutated(chance, p, n, one)))
        for p, n, one in (*quiet_great_programs(10, 524), *with_reads(10, 525)):
            pairs.append((p, n, one, mutated(chance, p, n, one)))
        right = wrong = 0
        for p, n, one, other in pairs:
            answer = differ(p, n, one, other)
            answer = answer or ("history", drawn(chance, p, n), drawn(chance, p, many_of(one, "read")))
            for value in (answer, *variants(answer)):
                expected = right_differ(p, n, one, other, value)
                self.check(expected, p, n, one, other, value)
                right += expected
                wrong += not expected
        self.assertGreater(right, 50)
        self.assertGreater(wrong, 1000)

    def test_values_of_any_kind(self):
        for value in (*JUNK, *deep_junk(), 0, 1, -1, 10 ** 79, "reads", "history"):
            for one, other in (((READ,), ()), ((WRITE,), ()), (SWAP, ()), ((), ()), ((loop(GREAT, *SWAP),), (SET,))):
                self.check(False, 5, 2, one, other, value)
                self.check(False, 5, 2, one, other, ("history", value, value))
                self.check(False, 5, 2, one, other, ("reads", value, value))
                self.check(False, 5, 2, one, other, ("history", (0, 1), value if value != () else None))
                self.check(False, 5, 2, one, other, ("history", value, ()))
                self.check(value == "history" and one[:1] == SWAP, 5, 2, one, other, (value, (0, 1), ()))


if __name__ == "__main__":
    unittest.main()
