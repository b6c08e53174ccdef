"""Points 2 and 4 over the whole program."""

import random
import unittest

from leastjournal import backward, field, forms, losses, machine, plans, programs, readable, reading, runs, same, showing
from leastjournal.errors import NoStep
from leastjournal.machine import Machine, resume
from leastjournal.programs import is_program, locate, read_count, reads_before, step_count, write_count
from leastjournal.same import differ
from leastjournal.session import Session
from leastjournal.showing import show_program
from tests.helpers import GREAT, frozen, loop, random_step
from tests.reference import drawn, great_forms, great_moments, great_run
from tests.test_interface import FUNCTIONS, METHODS
from tests.test_same import rewritten

P = (("copy", 1, 0), ("add", 0, 1, 4), ("read", 0))

# For each argument of the interface a value that fits the example of the document.
VALUES = {
    "p": 5,
    "n": 2,
    "a": 3,
    "rows": ((1, 0), (2, 0), (0, 1)),
    "row": (3, 4),
    "program": P,
    "value": P,
    "step": 1,
    "moment": 3,
    "x": 1,
    "registers": (3, 2),
    "inputs": (4,),
    "state": (3, (4, 3), (2,), ()),
    "now": 3,
    "then": 0,
    "plan": ((0, 0), (0, 1)),
    "one": P,
    "other": P[:2],
    "text": "copy 1 0\nadd 0 1 4\nread 0",
    "command": "value 0 1",
}
MODULES = (field, programs, runs, forms, losses, machine, readable, plans, backward, same, showing, reading)


def great_programs(many, seed):
    """Return (p, n, program): reads and writes before, between and behind great loops, nested up to four deep."""
    chance = random.Random(seed)
    found = []
    while len(found) < many:
        p, n = chance.choice((2, 3, 5, 7, 10007)), chance.randrange(1, 9)

        def quiet(level):
            rounds = chance.choice((0, 1, 2, 9, GREAT - 1, GREAT))
            body = [random_step(chance, p, n) for _ in range(chance.randrange(1, 4))]
            body = [step for step in body if step[0] not in ("read", "write")]
            if level and chance.randrange(2):
                body.insert(chance.randrange(len(body) + 1), quiet(level - 1))
            return loop(rounds, *body)

        def around(level):
            parts = []
            for _ in range(chance.randrange(1, 4)):
                parts += [random_step(chance, p, n) for _ in range(chance.randrange(3))]
                parts.append(quiet(level))
                parts += chance.sample([("read", chance.randrange(n)), ("write", chance.randrange(n)), quiet(level)], 2)
            return parts

        program = (*around(3), loop(chance.randrange(4), *around(2)), ("write", 0), *around(3))
        if is_program(p, n, program) and step_count(program) > GREAT // 2:
            found.append((p, n, program))
    return found


class NamesTest(unittest.TestCase):
    def test_functions_by_the_names_of_their_arguments(self):
        """In another order, each returns the same as by position."""
        asked = 0
        for module in MODULES:
            for name, arguments in FUNCTIONS[module].items():
                function = getattr(module, name)
                values = [VALUES[argument] for argument in arguments]
                before = frozen(values)
                expected = function(*values)
                names = dict(reversed(list(zip(arguments, values))))
                self.assertEqual(function(**names), expected, name)
                for many in range(1, len(values)):
                    rest = dict(reversed(list(zip(arguments[many:], values[many:]))))
                    self.assertEqual(function(*values[:many], **rest), expected, name)
                self.assertEqual(frozen(values), before)
                asked += 1
        self.assertEqual(asked, sum(len(functions) for functions in FUNCTIONS.values()))

    def test_methods_by_the_names_of_their_arguments(self):
        made = {
            Machine: lambda: Machine(5, P, (3, 2), (4,)),
            Session: lambda: Session(5, VALUES["text"], (3, 2), (4,)),
        }
        named = {
            Machine: lambda: Machine(inputs=(4,), registers=(3, 2), program=P, p=5),
            Session: lambda: Session(inputs=(4,), registers=(3, 2), text=VALUES["text"], p=5),
        }
        self.assertEqual(set(METHODS), set(made))
        for kind, methods in METHODS.items():
            for name, arguments in methods.items():
                if name.startswith("__"):
                    continue
                one, other = made[kind](), named[kind]()
                values = {argument: VALUES[argument] for argument in reversed(arguments[1:])}
                answers = []
                for each, call in ((one, lambda do: do(*[values[a] for a in arguments[1:]])), (other, lambda do: do(**values))):
                    try:
                        answers.append(call(getattr(each, name)))
                    except NoStep as error:
                        self.assertEqual(name, "back")
                        answers.append(type(error))
                self.assertEqual(answers[0], answers[1], name)
                if kind is Machine:
                    self.assertTrue(one == other)
                else:
                    self.assertEqual(one.run("show"), other.run(command="show"))


class WholeTest(unittest.TestCase):
    def history(self, chance, p, n, program):
        return drawn(chance, p, n), drawn(chance, p, read_count(program))

    def test_machines_and_sessions_far_out(self):
        """Registers, journal, pending inputs and outputs; a snapshot is enough to go on; a session says the same."""
        chance = random.Random(800)
        for p, n, program in great_programs(40, 801):
            registers, inputs = self.history(chance, p, n, program)
            m = Machine(p, program, registers, inputs)
            s = Session(p, show_program(program), registers, inputs)
            moments = great_moments(chance, program, 3)
            for moment in chance.sample(moments, min(6, len(moments))):
                m.goto(moment)
                now, written, rest = great_run(p, program, registers, inputs, moment)
                self.assertEqual((m.registers(), m.outputs(), m.pending()), (now, written, rest))
                self.check_journal(p, n, program, m, (registers, inputs))
                other = resume(p, program, m.snapshot())
                self.assertTrue(other == m)
                self.assertEqual(other.outputs(), written)
                self.assertEqual(s.run(f"goto {moment}"), f"moment {moment}")
                self.assertEqual(s.run("show"), " ".join(map(str, now)))
                question = (moment, chance.choice(moments), chance.randrange(n))
                self.check_answers(p, n, program, s, question)

    def check_journal(self, p, n, program, m, history):
        """The journal holds the values that the pushes overwrite, and has as many entries as the loss."""
        pushed = losses.pushes(p, n, program, m.now())
        self.assertEqual(len(m), losses.loss(p, n, program, m.now()))
        self.assertEqual(
            m.journal(), tuple(great_run(p, program, *history, step)[0][x] for step, x in pushed)
        )
        reads = reads_before(program, m.now())
        linear = tuple(tuple(form[1:]) for form in great_forms(p, n, program, m.now(), reads))
        self.assertEqual(len(m), n + reads - field.rank(p, linear))

    def check_answers(self, p, n, program, s, question):
        """A session's where and can, by the program and by forms."""
        moment, then, x = question
        if moment < step_count(program):
            self.assertEqual(s.run("where"), " ".join(map(str, locate(program, moment)[1])))
        else:
            self.assertEqual(s.run("where"), "end")
        reads = reads_before(program, max(moment, then))
        linear = tuple(tuple(form[1:]) for form in great_forms(p, n, program, moment, reads))
        wanted = tuple(great_forms(p, n, program, then, reads)[x][1:])
        told = field.rank(p, linear) == field.rank(p, (*linear, wanted))
        self.assertEqual(s.run(f"can {x} {then}"), "yes" if told else "no")

    def test_orders_of_calls(self):
        """However a machine comes to a moment, it shows the same there."""
        chance = random.Random(802)
        for p, n, program in great_programs(15, 803):
            registers, inputs = self.history(chance, p, n, program)
            m = Machine(p, program, registers, inputs)
            s = Session(p, show_program(program), registers, inputs)
            end = step_count(program)
            moments = great_moments(chance, program, 3)
            for _ in range(12):
                moment = chance.choice(moments)
                m.goto(moment)
                s.run(f"goto {moment}")
                for _ in range(chance.randrange(4)):
                    if chance.randrange(2) and m.now() < end:
                        m.step()
                        s.run("step")
                    elif m.now() > 0:
                        m.back()
                        s.run("back")
                now, written, rest = great_run(p, program, registers, inputs, m.now())
                fresh = Machine(p, program, registers, inputs)
                fresh.goto(m.now())
                self.assertEqual((m.snapshot(), m.outputs()), (fresh.snapshot(), fresh.outputs()))
                self.assertEqual((m.registers(), m.outputs(), m.pending()), (now, written, rest))
                answers = tuple(s.run(word) for word in ("show", "journal", "pending", "outputs", "loss"))
                values = (now, m.journal(), rest, written, (len(m),))
                self.assertEqual(answers, tuple(" ".join(map(str, part)) or "-" for part in values))

    def test_loops_rewritten(self):
        chance = random.Random(804)
        for p, n, program in great_programs(40, 805):
            other = rewritten(chance, p, n, program)
            self.assertIsNone(differ(p, n, program, other))
            history = self.history(chance, p, n, program)
            self.assertEqual(great_run(p, program, *history), great_run(p, other, *history))
            wrong = (*other, ("scale", 0, 0), ("set", 0, 1))
            self.assertEqual(differ(p, n, (*program, ("scale", 0, 0)), wrong)[0], "history")

    def test_plans_and_texts(self):
        chance = random.Random(806)
        for p, n, program in great_programs(25, 807):
            self.assertEqual(reading.read_program(p, n, show_program(program)), program)
            moment = chance.choice(great_moments(chance, program, 3))
            own = plans.own_plan(p, n, program, moment)
            self.assertTrue(plans.sufficient(p, n, program, moment, own))
            self.assertEqual(plans.shrunk(p, n, program, moment, own), own)
            for at in range(len(own)):
                pair = plans.unlike(p, n, program, moment, own[:at] + own[at + 1:])
                self.assertTrue(plans.shows_unlike(p, n, program, moment, own[:at] + own[at + 1:], pair))
                self.assertFalse(plans.shows_unlike(p, n, program, moment, own, pair))

    def test_there_and_back(self):
        """The backward program, run on its own machine, ends where the first machine began."""
        chance = random.Random(808)
        done = 0
        for p, n, program in great_programs(150, 809):
            short = tuple(part for part in program if programs.depth((part,)) <= 2)[:12]
            if programs.size(short) > 40:
                continue
            done += 1
            registers, inputs = self.history(chance, p, n, short)
            m = Machine(p, short, registers, inputs)
            m.goto(step_count(short))
            back = backward.backward(p, n, short)
            ends = forms.state_at(p, back, m.registers(), m.journal()[::-1], step_count(back))
            outputs = forms.outputs_at(p, back, m.registers(), m.journal()[::-1], step_count(back))
            self.assertEqual((ends, outputs), (registers, inputs[::-1]))
            self.assertEqual((read_count(back), write_count(back)), (len(m), len(inputs)))
        self.assertGreater(done, 50)

    def test_the_same_question_has_the_same_answer(self):
        for module in MODULES:
            for name, arguments in FUNCTIONS[module].items():
                values = [VALUES[argument] for argument in arguments]
                answers = [frozen(getattr(module, name)(*values)) for _ in range(2) if name != "resume"]
                self.assertEqual(len(set(answers)), 0 if name == "resume" else 1, name)


if __name__ == "__main__":
    unittest.main()
