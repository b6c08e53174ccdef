"""Points 2, 4 and 16: Session."""

import itertools
import random
import unittest

from leastjournal.errors import (
    BadCommand,
    BadField,
    BadInputs,
    BadMoment,
    BadRegister,
    BadRegisters,
    BadText,
    JournalError,
    NoStep,
)
from leastjournal.losses import pushes
from leastjournal.machine import Machine
from leastjournal.programs import last_assignment, read_count, step_count
from leastjournal.readable import readable
from leastjournal.session import Session
from leastjournal.showing import show_program
from tests.helpers import GREAT, JUNK, READ, SET, WRITE, deep_junk, frozen, loop
from tests.reference import (
    all_histories,
    drawn,
    great_moments,
    played,
    quiet_great_programs,
    reads_of,
    steps_of,
    tiny_programs,
)
from tests.test_losses import with_reads
from tests.test_machine import prepared

TEXT = "copy 1 0\nadd 0 1 4\nread 0"
P = (("copy", 1, 0), ("add", 0, 1, 4), ("read", 0))
L = (("loop", 10 ** 18, (("copy", 2, 1), ("copy", 1, 0), ("set", 0, 0))),)

WORDS = ("show", "journal", "pending", "outputs", "where", "loss")


def told(values):
    return " ".join(map(str, values)) or "-"


class SessionCase(unittest.TestCase):
    def state(self, session):
        """Return what a session tells of its moment."""
        return tuple(session.run(word) for word in WORDS)

    def refused(self, session, kind, name, value, command):
        """Check that a command is refused with this value, and that this changes nothing."""
        state, before = self.state(session), frozen(command)
        with self.assertRaises(kind) as caught:
            session.run(command)
        self.assertIs(type(caught.exception), kind)
        if name is not None:
            self.assertEqual(getattr(caught.exception, name), value)
            self.assertIs(type(getattr(caught.exception, name)), type(value))
        if kind is BadCommand:
            self.assertIs(caught.exception.command, command)
        self.assertEqual((self.state(session), frozen(command)), (state, before))


class CommandTest(SessionCase):
    def test_example(self):
        s = Session(5, TEXT, (3, 2), (4,))
        a = s.run("goto 2")
        answers = (a, s.run("show"), s.run("journal"), s.run("where"), s.run("can 1 0"), s.run("last 0"))
        self.assertEqual(answers, ("moment 2", "0 3", "2", "read 0", "no", "1"))

    def test_names_of_arguments(self):
        s = Session(inputs=(4,), registers=(3, 2), text=TEXT, p=5)
        self.assertEqual(s.run(command="goto 3"), "moment 3")
        self.assertEqual(s.run(command="show"), "4 3")
        self.assertEqual(Session(5, "set 0 1", registers=(3,)).run("pending"), "-")
        self.assertEqual(Session(5, "", (3,)).run("where"), "end")

    def test_each_moment(self):
        s = Session(5, "write 1\n" + TEXT, (3, 2), (4,))
        for moment, answers in enumerate((
            ("3 2", "-", "4", "-", "write 1", "0"),
            ("3 2", "-", "4", "2", "copy 1 0", "0"),
            ("3 3", "2", "4", "2", "add 0 1 4", "1"),
            ("0 3", "2", "4", "2", "read 0", "1"),
            ("4 3", "2", "-", "2", "end", "1"),
        )):
            self.assertEqual(s.run(f"goto {moment}"), f"moment {moment}")
            self.assertEqual(self.state(s), answers)
        for moment in (3, 2, 1, 0):
            self.assertEqual(s.run("back"), f"moment {moment}")
        for moment in (1, 2, 3, 4):
            self.assertEqual(s.run("step"), f"moment {moment}")
        self.assertEqual([s.run(f"value {x} {moment}") for x in (0, 1) for moment in range(5)], list("3330422333"))
        self.assertEqual((s.run("last 0"), s.run("last 1")), ("3", "1"))
        s.run("goto 1")
        self.assertEqual((s.run("last 0"), s.run("last 1")), ("-", "-"))

    def check(self, session, expected, program):
        """Check everything that a session tells of its moment."""
        (moment, registers, journal, pending), outputs = expected
        steps = steps_of(program)
        line = told(steps[moment]) if moment < len(steps) else "end"
        answers = (told(registers), told(journal), told(pending), told(outputs), line, str(len(journal)))
        self.assertEqual(self.state(session), answers)
        for x in range(len(registers)):
            last = last_assignment(program, moment, x)
            self.assertEqual(session.run(f"last {x}"), "-" if last is None else str(last))

    def test_small_programs(self):
        chance = random.Random(700)
        for p, n, program, registers, inputs, expected in prepared(50, 30, 701):
            before = frozen((registers, inputs))
            s = Session(p, show_program(program), registers, inputs)
            end = len(expected) - 1
            self.check(s, expected[0], program)
            for moment in range(1, end + 1):
                self.assertEqual(s.run("step"), f"moment {moment}")
                self.check(s, expected[moment], program)
            for moment in range(end - 1, -1, -1):
                self.assertEqual(s.run("back"), f"moment {moment}")
                self.check(s, expected[moment], program)
            for moment in chance.choices(range(end + 1), k=6):
                self.assertEqual(s.run(f"goto {moment}"), f"moment {moment}")
                self.check(s, expected[moment], program)
                for x in range(n):
                    then = chance.randrange(end + 1)
                    self.assertEqual(s.run(f"value {x} {then}"), str(expected[then][0][1][x]))
                    self.assertEqual(s.run("show"), told(expected[moment][0][1]))
            self.assertEqual(frozen((registers, inputs)), before)

    def test_can_against_all_histories(self):
        counts = {"yes": 0, "no": 0}
        for p, n, reads, many in ((2, 1, 3, 16), (2, 2, 2, 24), (3, 1, 2, 12), (3, 2, 1, 16)):
            for program in tiny_programs(p, n, reads, many, 702 + p + n, 8):
                steps = steps_of(program)
                s = Session(p, show_program(program), (0,) * n, (0,) * reads_of(steps))
                runs = [played(p, program, *one) for one in all_histories(p, n, reads_of(steps))]
                for now, then, x in itertools.product(range(len(steps) + 1), range(len(steps) + 1), range(n)):
                    seen = {}
                    for run in runs:
                        seen.setdefault(run[now][0], set()).add(run[then][0][x])
                    expected = "yes" if all(len(values) == 1 for values in seen.values()) else "no"
                    s.run(f"goto {now}")
                    self.assertEqual(s.run(f"can {x} {then}"), expected, (p, program, now, then, x))
                    counts[expected] += 1
        self.assertGreater(min(counts.values()), 200)

    def test_sessions_with_other_values_can_the_same(self):
        one = Session(5, TEXT, (3, 2), (4,))
        other = Session(5, TEXT, (0, 0), (1,))
        for now, x, then in itertools.product(range(4), range(2), range(4)):
            one.run(f"goto {now}")
            other.run(f"goto {now}")
            self.assertEqual(one.run(f"can {x} {then}"), other.run(f"can {x} {then}"))
            self.assertEqual(one.run(f"can {x} {then}") == "yes", readable(5, 2, P, now, then, x)[0] == "sum")

    def test_great_loops(self):
        chance = random.Random(703)
        for p, n, program in (*quiet_great_programs(20, 704), *with_reads(20, 705), (7, 3, L)):
            registers, inputs = drawn(chance, p, n), drawn(chance, p, read_count(program))
            s = Session(p, show_program(program), registers, inputs)
            m = Machine(p, program, registers, inputs)
            end = step_count(program)
            moments = great_moments(chance, program, 2)
            for now in chance.sample(moments, min(6, len(moments))):
                self.assertEqual(s.run(f"goto {now}"), f"moment {now}")
                m.goto(now)
                line = s.run("where")
                self.assertEqual(line == "end", now == end)
                if now < end:
                    self.assertIn(line, [text.strip() for text in show_program(program).split("\n")])
                expected = (m.registers(), m.journal(), m.pending(), m.outputs())
                self.assertEqual(self.state(s)[:4], tuple(told(values) for values in expected))
                self.assertEqual(s.run("loss"), str(len(pushes(p, n, program, now))))
                then, x = chance.choice(moments), chance.randrange(n)
                self.assertEqual(s.run(f"value {x} {then}"), str(m.peek(x, then)))
                self.assertEqual(s.run(f"can {x} {then}") == "yes", readable(p, n, program, now, then, x)[0] == "sum")
                last = m.last_assignment(x)
                self.assertEqual(s.run(f"last {x}"), "-" if last is None else str(last))
                if now < end:
                    self.assertEqual(s.run("step"), f"moment {now + 1}")
                    self.assertEqual(s.run("back"), f"moment {now}")

    def test_far_out_by_hand(self):
        text = "loop 1000000000000000000 {\n  loop 1000000000000000000 {\n    add 0 1 1\n    write 0\n  }\n}"
        with self.assertRaises(BadText):
            Session(7, text, (1, 2))
        text = text.replace("    write 0\n", "")
        s = Session(7, text, (1, 2))
        end = GREAT * GREAT
        for moment in (0, 1, GREAT, end // 3, end):
            self.assertEqual(s.run(f"goto {moment}"), f"moment {moment}")
            self.assertEqual(s.run("show"), f"{(1 + 2 * moment) % 7} 2")
            self.assertEqual((s.run("journal"), s.run("loss"), s.run("pending"), s.run("outputs")), ("-", "0", "-", "-"))
            self.assertEqual(s.run("where"), "end" if moment == end else "add 0 1 1")
            self.assertEqual(s.run("last 0"), str(moment - 1) if moment else "-")
            self.assertEqual(s.run("last 1"), "-")
            self.assertEqual(s.run(f"can 0 {end - 1}"), "yes")
        self.refused(s, NoStep, None, None, "step")
        self.refused(s, BadMoment, "moment", end + 1, f"goto {end + 1}")

    def test_programs_without_steps(self):
        for text in ("", "loop 1000000000000000000 {\n}", "loop 0 {\n  read 0\n}"):
            s = Session(5, text, (3, 0))
            self.assertEqual(self.state(s), ("3 0", "-", "-", "-", "end", "0"))
            self.assertEqual((s.run("goto 0"), s.run("value 0 0"), s.run("can 1 0"), s.run("last 0")), ("moment 0", "3", "yes", "-"))
            self.refused(s, NoStep, None, None, "step")
            self.refused(s, NoStep, None, None, "back")
            self.refused(s, BadMoment, "moment", 1, "goto 1")

    def test_answers_are_texts(self):
        s = Session(5, TEXT, (3, 2), (4,))
        for command in ("step", "back", "goto 2", *WORDS, "value 0 0", "last 0", "can 0 0"):
            self.assertIs(type(s.run(command)), str)


class WrongFormTest(SessionCase):
    def wrong(self, session, command):
        self.refused(session, BadCommand, None, None, command)

    def sessions(self):
        for moment in (0, 2, 3):
            s = Session(5, TEXT, (3, 2), (4,))
            s.run(f"goto {moment}")
            yield s

    def test_wrong_forms(self):
        for s in self.sessions():
            for command in (
                "",
                " ",
                "\n",
                "step ",
                " step",
                "step\n",
                "step 1",
                "step 0",
                "Step",
                "STEP",
                "steps",
                "ste",
                "step step",
                "back 1",
                "back  ",
                "goto",
                "goto ",
                "goto  1",
                "goto 1 ",
                " goto 1",
                "goto\t1",
                "goto 01",
                "goto 00",
                "goto +1",
                "goto -1",
                "goto -0",
                "goto 1.0",
                "goto 1e0",
                "goto 1_0",
                "goto 0x1",
                "goto one",
                "goto 1 1",
                "goto \u0663",
                "goto \u00b2",
                "goto \uff11",
                "goto1",
                "goto " + "1" * 81,
                "goto " + "0" * 80,
                "goto " + "9" * 19000,
                "show 0",
                "show ",
                "journal 1",
                "pending 1",
                "outputs 1",
                "where 1",
                "loss 1",
                "loss -",
                "value",
                "value 0",
                "value 0 ",
                "value 0  0",
                "value 0 0 0",
                "value 00 0",
                "value 0 00",
                "value -1 0",
                "value 0 -1",
                "value x 0",
                "value 0 n",
                "value 0 " + "1" * 81,
                "value " + "1" * 81 + " 0",
                "last",
                "last ",
                "last 0 0",
                "last 00",
                "last r0",
                "last -1",
                "last " + "9" * 81,
                "can",
                "can 0",
                "can 0 0 0",
                "can 0 01",
                "can 0, 0",
                "can 0 " + "9" * 81,
                "help",
                "quit",
                "registers",
                "now",
                "peek 0 0",
                "snapshot",
                "run",
                "0",
                "1 2 3",
                "-",
                "end",
                "moment 2",
                "read 0",
                "None",
                "step;step",
                "step\nstep",
                "x" * 20000,
                " " * 20000,
            ):
                self.wrong(s, command)

    def test_values_that_are_no_texts(self):
        for s in self.sessions():
            for value in (*JUNK, *deep_junk(), 0, 1, -1, 10 ** 79, b"step", ["step"], ("step",), ("goto", 1), {"step": 0}):
                self.wrong(s, value)

    def test_form_before_what_the_machine_says(self):
        s = Session(5, "", (3,))
        for command in ("goto 01", "value 9 01", "value 01 9", "last 09", "can 9 -1", "step 1", "back 1"):
            self.wrong(s, command)

    def test_numbers_of_eighty_digits(self):
        number = int("9" * 80)
        for s in self.sessions():
            self.refused(s, BadMoment, "moment", number, f"goto {number}")
            self.refused(s, BadMoment, "moment", number, f"value 0 {number}")
            self.refused(s, BadRegister, "x", number, f"value {number} 0")
            self.refused(s, BadRegister, "x", number, f"last {number}")
            self.refused(s, BadRegister, "x", number, f"can {number} {number}")
            self.refused(s, BadMoment, "moment", number, f"can 1 {number}")

    def test_as_the_machine_does(self):
        for s in self.sessions():
            self.refused(s, BadMoment, "moment", 4, "goto 4")
            self.refused(s, BadMoment, "moment", 10 ** 20, f"goto {10 ** 20}")
            for word in ("value", "can"):
                self.refused(s, BadRegister, "x", 2, f"{word} 2 0")
                self.refused(s, BadRegister, "x", 2, f"{word} 2 9")
                self.refused(s, BadRegister, "x", 10, f"{word} 10 10")
                self.refused(s, BadMoment, "moment", 4, f"{word} 1 4")
                self.refused(s, BadMoment, "moment", 9, f"{word} 0 9")
            self.refused(s, BadRegister, "x", 2, "last 2")
            self.refused(s, BadRegister, "x", 8, "last 8")
        s = Session(5, TEXT, (3, 2), (4,))
        self.refused(s, NoStep, None, None, "back")
        s.run("goto 3")
        self.refused(s, NoStep, None, None, "step")
        self.assertEqual(s.run("back"), "moment 2")


class MakingTest(unittest.TestCase):
    def refused(self, kind, name, value, *values, **names):
        before = frozen((values, names))
        with self.assertRaises(JournalError) as caught:
            Session(*values, **names)
        self.assertIs(type(caught.exception), kind, values)
        found = getattr(caught.exception, name)
        if kind is BadText:
            self.assertEqual((found, type(found)), (value, int))
        else:
            self.assertIs(found, value)
        self.assertEqual(frozen((values, names)), before)

    def test_each(self):
        for p in (*JUNK, *deep_junk(), 0, 1, 4, -5, 10009, 10 ** 79):
            self.refused(BadField, "value", p, p, TEXT, (3, 2), (4,))
        for registers in (*JUNK, (3, 5), (-1, 2), (True, 2), [3, 2], (0,) * 9, 3, "32"):
            if registers != (0,) or not isinstance(registers, tuple):
                self.refused(BadRegisters, "value", registers, 5, TEXT, registers, (4,))
        for text in (*JUNK, *deep_junk(), 0, P, "read", "}", "set 0 5", "copy 2 0"):
            if text not in ("", "read 0"):
                self.refused(BadText, "line", 0, 5, text, (3, 2), (4,))
        self.refused(BadText, "line", 1, 5, "read 0\n", (3, 2), (4,))
        for inputs in (*JUNK, *deep_junk(), (4, 4), (5,), (-1,), (True,), [4], "4", 4):
            if inputs != (0,) or not isinstance(inputs, tuple):
                self.refused(BadInputs, "value", inputs, 5, TEXT, (3, 2), inputs)

    def test_in_this_order(self):
        field, registers, inputs = 6, [3], (9,)
        for wrong in itertools.product((False, True), repeat=4):
            values = (
                field if wrong[0] else 5,
                "copy 1 0\nset 0 9" if wrong[2] else TEXT,
                registers if wrong[1] else (3, 2),
                inputs if wrong[3] else (4,),
            )
            kinds = [
                (BadField, "value", field),
                (BadRegisters, "value", registers),
                (BadText, "line", 1),
                (BadInputs, "value", inputs),
            ]
            first = [kind for kind, bad in zip(kinds, wrong) if bad][:1]
            if first:
                self.refused(*first[0], *values)
            else:
                self.assertEqual(Session(*values).run("show"), "3 2")

    def test_lines(self):
        self.refused(BadText, "line", 1, 5, "set 0 0\nset 1 0", (3,))
        self.assertEqual(Session(5, "set 0 0\nset 1 0", (3, 2)).run("step"), "moment 1")
        self.refused(BadText, "line", 2, 5, "loop 2 {\n  read 0\n  set 1 5\n}", (3, 2), (1, 1))
        self.refused(BadText, "line", 1, 5, "loop 2 {", (3, 2))
        self.refused(BadText, "line", 0, 5, "\n".join(["set 0 0"] * 201), (3, 2))
        self.refused(BadText, "line", 0, 5, "loop 2001 {\n  read 0\n}", (3, 2), (0,) * 2001)

    def test_inputs_left_out(self):
        self.assertEqual(Session(5, "set 0 0", (3,)).run("pending"), "-")
        with self.assertRaises(BadInputs) as caught:
            Session(5, TEXT, (3, 2))
        self.assertEqual(caught.exception.value, ())
        self.refused(BadInputs, "value", (1,), inputs=(1,), registers=(3,), text="set 0 0", p=5)

    def test_reads_in_loops(self):
        program = (loop(3, READ, WRITE), loop(0, READ), SET)
        s = Session(5, show_program(program), (3,), (1, 2, 4))
        self.assertEqual(s.run("pending"), "1 2 4")
        self.assertEqual(s.run("goto 3"), "moment 3")
        self.assertEqual((s.run("pending"), s.run("outputs"), s.run("journal")), ("4", "1", "3 1"))
        self.assertEqual(s.run("goto 7"), "moment 7")
        self.assertEqual((s.run("pending"), s.run("outputs"), s.run("journal"), s.run("show")), ("-", "1 2 4", "3 1 2 4", "0"))


if __name__ == "__main__":
    unittest.main()
