"""Points 2, 4 and 15: show_program and read_program."""

import itertools
import random
import re
import unittest

from leastjournal.backward import backward
from leastjournal.errors import BadText
from leastjournal.programs import is_program, size
from leastjournal.reading import read_program
from leastjournal.showing import show_program
from tests.helpers import GREAT, JUNK, READ, SET, WRITE, deep_junk, frozen, loop, nested, random_program, small_programs
from tests.reference import length, quiet_great_programs

L = (("loop", 10 ** 18, (("copy", 2, 1), ("copy", 1, 0), ("set", 0, 0))),)

EVERY = (
    ("set", 0, 4),
    ("copy", 1, 0),
    ("add", 0, 1, 4),
    ("scale", 2, 0),
    ("swap", 0, 1),
    ("read", 0),
    ("write", 1),
    ("loop", 3, (("read", 2), ("loop", 0, ()), ("write", 0))),
    ("loop", 10 ** 18, ()),
)
EVERY_TEXT = (
    "set 0 4\ncopy 1 0\nadd 0 1 4\nscale 2 0\nswap 0 1\nread 0\nwrite 1\n"
    "loop 3 {\n  read 2\n  loop 0 {\n  }\n  write 0\n}\nloop 1000000000000000000 {\n}"
)

NUMBER = "(0|[1-9][0-9]*)"
SHAPES = {"set": "xc", "copy": "xx", "add": "xxc", "scale": "xc", "swap": "xx", "read": "x", "write": "x"}


def expected_reading(p, n, text):
    """Return (program, None) or (None, line), by the words of the document."""
    lines = text.split("\n") if text else []
    root = []
    around = [root]
    heads = []
    for index, line in enumerate(lines):
        margin = "  " * len(heads)
        if heads and line == margin[2:] + "}":
            around.pop()
            around[-1].append(("loop", heads.pop(), tuple(body)))
            body = around[-1]
            continue
        found = re.fullmatch(margin + "loop " + NUMBER + r" \{", line)
        if found and int(found[1]) <= GREAT and len(heads) < 4:
            heads.append(int(found[1]))
            body = []
            around.append(body)
            continue
        step = expected_step(p, n, line[len(margin):]) if line[:len(margin)] == margin else None
        if step is None:
            return None, index
        around[-1].append(step)
        body = around[-1]
    if heads:
        return None, len(lines)
    program = tuple(root)
    return (program, None) if is_program(p, n, program) else (None, 0)


def expected_step(p, n, line):
    """Return the instruction of a line without its margin, None if it is none."""
    found = re.fullmatch("([a-z]+)((?: " + NUMBER + ")+)", line)
    if not found or found[1] not in SHAPES:
        return None
    shape, numbers = SHAPES[found[1]], [int(word) for word in found[2].split()]
    if len(shape) != len(numbers):
        return None
    registers = [number for kind, number in zip(shape, numbers) if kind == "x"]
    fields = [number for kind, number in zip(shape, numbers) if kind == "c"]
    if len(set(registers)) < len(registers) or not all(x < n for x in registers):
        return None
    if not all((found[1] == "add") <= c < p for c in fields):
        return None
    return (found[1], *numbers)


def changed_texts(chance, text):
    """Return texts that differ from this one in one place."""
    found = []
    signs = " \n\t{}0123456789-+.#setcopyadloprwi\u0663\u00b2\u00a0\r\x0b\x1c"
    for at in range(len(text) + 1):
        found.append(text[:at] + chance.choice(signs) + text[at:])
        if at < len(text):
            found.append(text[:at] + text[at + 1:])
            found.append(text[:at] + chance.choice(signs) + text[at + 1:])
    lines = text.split("\n")
    for at, line in enumerate(lines):
        before, after = lines[:at], lines[at + 1:]
        changes = [[], [line, line], ["", line], [line + " "], [" " + line], ["  " + line], ["\t" + line]]
        changes += [["}", line], [line, "}"], [line + " 1"], [line.replace(" ", "  ", 1)], [line.upper()]]
        changes += [["loop 2 {", line], [line, "loop 2 {"], ["loop 2 {", line, "}"], ["loop 2 {", "  " + line, "}"]]
        if line.startswith(" "):
            changes += [[line[1:]], [line[2:]], [line.lstrip()]]
        found += ["\n".join(before + change + after) for change in changes]
        if after:
            found.append("\n".join(before + [after[0], line] + after[1:]))
        numbers = [match.span() for match in re.finditer("[0-9]+", line)]
        for start, stop in numbers:
            for new in ("0" + line[start:stop], "-1", "+1", "1.0", "", "00", "9", "10007", "0", "1", "8", str(GREAT + 1)):
                found.append("\n".join(before + [line[:start] + new + line[stop:]] + after))
    return found


class ShowProgramTest(unittest.TestCase):
    def test_example(self):
        expected = "loop 1000000000000000000 {\n  copy 2 1\n  copy 1 0\n  set 0 0\n}"
        self.assertEqual(show_program(L), expected)
        self.assertEqual(show_program(program=L), expected)
        self.assertIs(type(show_program(L)), str)

    def test_each_instruction(self):
        self.assertEqual(show_program(EVERY), EVERY_TEXT)
        for line in ("set 0 5", "copy 1 0", "add 0 1 4", "scale 2 3", "swap 0 1", "read 0", "write 1"):
            word, *numbers = line.split(" ")
            instruction = (word, *[int(number) for number in numbers])
            self.assertEqual(show_program((instruction,)), line)
            self.assertEqual(show_program((instruction, instruction)), line + "\n" + line)
            self.assertEqual(show_program((loop(7, instruction),)), "loop 7 {\n  " + line + "\n}")

    def test_empty_programs_and_bodies(self):
        self.assertEqual(show_program(()), "")
        self.assertEqual(show_program((loop(0),)), "loop 0 {\n}")
        self.assertEqual(show_program((loop(2, loop(3)),)), "loop 2 {\n  loop 3 {\n  }\n}")

    def test_nested_four_deep(self):
        program = (loop(1, loop(2, loop(3, loop(4, SET), WRITE)), READ),)
        text = "loop 1 {\n  loop 2 {\n    loop 3 {\n      loop 4 {\n        set 0 0\n      }\n      write 0\n    }\n  }\n  read 0\n}"
        self.assertEqual(show_program(program), text)
        self.assertEqual(read_program(5, 1, text), program)

    def test_read_again(self):
        chance = random.Random(600)
        for p, n, program in (*small_programs(), *quiet_great_programs(20, 601), (7, 3, L), (5, 3, EVERY), (5, 1, ())):
            before = frozen(program)
            text = show_program(program)
            self.assertEqual(frozen(program), before)
            again = read_program(p, n, text)
            self.assertEqual(again, program)
            self.assertEqual(frozen(again), before)
            self.assertEqual(read_program(text=text, n=n, p=p), program)
            self.assertEqual(show_program(again), text)
            self.assertEqual(expected_reading(p, n, text), (program, None))
        for _ in range(60):
            p, n = chance.choice((2, 7, 10007)), chance.randrange(1, 9)
            program = random_program(chance, p, n, 4, 6, (0, 1, 12, GREAT))
            if is_program(p, n, program):
                self.assertEqual(read_program(p, n, show_program(program)), program)

    def test_results_may_be_passed_in_again(self):
        back = backward(7, 5, (("set", 3, 0), loop(60, ("swap", 1, 2), READ, ("swap", 2, 3), *(("set", 4, 2),) * 5)))
        self.assertGreater(size(back), 200)
        self.assertEqual(len(show_program(back).split("\n")), size(back))


class ReadProgramTest(unittest.TestCase):
    def refused(self, line, text, p=5, n=3):
        before = frozen(text)
        with self.assertRaises(BadText) as caught:
            read_program(p, n, text)
        self.assertIs(type(caught.exception), BadText)
        self.assertEqual(caught.exception.line, line, text)
        self.assertIs(type(caught.exception.line), int)
        self.assertEqual(frozen(text), before)

    def check(self, p, n, text):
        """Check a text by the words of the document; return whether it is read."""
        program, line = expected_reading(p, n, text)
        if program is None:
            self.refused(line, text, p, n)
        else:
            self.assertEqual(read_program(p, n, text), program, text)
        return program is not None

    def test_example(self):
        self.refused(2, "loop 2 {\n  read 0\n  set 1 5\n}", 5, 2)
        with self.assertRaises(BadText) as caught:
            read_program(text="set 0 9", n=2, p=5)
        self.assertEqual(caught.exception.line, 0)

    def test_good(self):
        for text, program in (
            ("", ()),
            ("set 0 0", (SET,)),
            (EVERY_TEXT, EVERY),
            ("loop 0 {\n}", (loop(0),)),
            ("loop 1000000000000000000 {\n}\nread 2", (loop(GREAT), ("read", 2))),
            ("scale 0 1\nscale 1 0", (("scale", 0, 1), ("scale", 1, 0))),
        ):
            self.assertEqual(read_program(5, 3, text), program)
            self.assertEqual(frozen(read_program(5, 3, text)), frozen(program))

    def test_one_change(self):
        chance = random.Random(610)
        read = refused = 0
        bases = [(5, 3, EVERY_TEXT), (7, 3, show_program(L)), (2, 1, "loop 2 {\n  read 0\n}\nwrite 0"), (5, 2, "swap 0 1")]
        deep = nested(lambda value: (loop(2, SET, *value, ("add", 1, 2, 1)),), 4, ())
        bases.append((5, 3, show_program(deep)))
        for p, n, program in small_programs(40):
            bases.append((p, n, show_program(program)))
        for p, n, text in bases:
            for other in changed_texts(chance, text):
                if self.check(p, n, other):
                    read += 1
                else:
                    refused += 1
        self.assertGreater(read, 300)
        self.assertGreater(refused, 5000)

    def test_two_changes(self):
        """The first of two wrong lines counts."""
        chance = random.Random(611)
        for p, n, text in ((5, 3, EVERY_TEXT), (7, 3, show_program(L))):
            for _ in range(300):
                other = chance.choice(changed_texts(chance, chance.choice(changed_texts(chance, text))))
                self.check(p, n, other)

    def test_lines(self):
        """Each line is wrong, alone and behind others."""
        for line in (
            "",
            " ",
            "  ",
            " set 0 0",
            "  set 0 0",
            "set 0 0 ",
            "set  0 0",
            "set 0  0",
            "set\t0 0",
            "\tset 0 0",
            "set 0",
            "set 0 0 0",
            "set 0 5",
            "set 3 0",
            "set 00 0",
            "set 0 00",
            "set 01 0",
            "set 0 01",
            "set +0 0",
            "set 0 +1",
            "set -1 0",
            "set 0 -1",
            "set 0 1.0",
            "set 0 1e0",
            "set 0 1_0",
            "set 0 a",
            "set 0 \u0663",
            "set 0 \u00b2",
            "set \uff11 0",
            "set 0 0\r",
            "set 0,0",
            "set(0 0)",
            "Set 0 0",
            "SET 0 0",
            "set",
            "0 0",
            "copy 0 0",
            "copy 0",
            "copy 3 0",
            "copy 0 3",
            "copy 0 1 1",
            "add 0 0 1",
            "add 0 1 0",
            "add 0 1 5",
            "add 0 1",
            "add 0 1 1 1",
            "scale 0 5",
            "scale 0",
            "swap 1 1",
            "swap 0 1 2",
            "swap 0 3",
            "read",
            "read 3",
            "read 0 0",
            "write",
            "write 3",
            "write 0 1",
            "loop 2",
            "loop {",
            "loop 2{",
            "loop 2 }",
            "loop 2 {}",
            "loop 2 { ",
            "loop  2 {",
            "loop 2  {",
            "loop 02 {",
            "loop -1 {",
            "loop +1 {",
            "loop 1000000000000000001 {",
            "loop 10000000000000000000 {",
            "loop " + "9" * 80 + " {",
            "loop " + "9" * 5000 + " {",
            "loop 2 { set 0 0 }",
            "loop 2 3 {",
            "loop 2 2",
            "loop",
            "Loop 2 {",
            "loop \u0663 {",
            "set 0 " + "1" * 81,
            "set 0 " + "1" * 5000,
            "set 0 " + "0" * 5000,
            "set " + "9" * 10000 + " 0",
            "{",
            "2 {",
            "} ",
            " }",
            "  }",
            "}}",
            "} 3",
            "end",
            "# set 0 0",
            "set 0 0 # c",
            "set 0 0; set 1 1",
            "('set', 0, 0)",
            "None",
        ):
            if line != "":
                self.refused(0, line)
            self.refused(1, "set 0 0\n" + line)
            self.refused(2, "set 0 0\nread 1\n" + line + "\nwrite 0")
            self.refused(0, line + "\n" + line)
            if line not in ("  set 0 0", "  }"):
                self.refused(1, "loop 2 {\n" + line + "\n}")
            self.refused(1, "loop 2 {\n  " + line + "\n}")
            self.refused(2, "loop 2 {\n}\n" + line)

    def test_closing_lines(self):
        self.refused(0, "}")
        self.refused(1, "set 0 0\n}")
        self.refused(2, "loop 2 {\n}\n}")
        self.refused(3, "loop 2 {\n  read 0\n}\n}\n}")
        self.refused(1, "loop 2 {\n  }\n}")
        self.refused(1, "loop 2 {\n }\n}")
        self.refused(2, "loop 2 {\n  loop 3 {\n}\n}")
        self.refused(2, "loop 2 {\n  loop 3 {\n    }\n}")
        self.refused(3, "loop 2 {\n  loop 3 {\n  }\n  }\n}")
        self.refused(3, "loop 2 {\n  loop 3 {\n  }\n}2")
        self.refused(1, "loop 2 {\n} 2")
        self.refused(1, "loop 2 {\n}2")

    def test_loops_that_are_not_closed(self):
        self.refused(1, "loop 2 {")
        self.refused(2, "loop 2 {\n  read 0")
        self.refused(3, "loop 2 {\n  loop 3 {\n  }")
        self.refused(2, "loop 2 {\n  loop 3 {")
        self.refused(5, "set 0 0\nloop 2 {\n}\nloop 2 {\n  set 0 0")
        self.refused(2, "loop 2 {\n  read 0\n")
        self.refused(1, "loop 2 {\n")

    def test_line_feeds(self):
        self.refused(0, "\n")
        self.refused(0, "\n\n")
        self.refused(0, "\nset 0 0")
        self.refused(1, "set 0 0\n")
        self.refused(1, "set 0 0\n\nset 0 0")
        self.refused(0, "set 0 0\r\nset 0 0")
        self.refused(0, "set 0 0\x0bset 0 0")
        self.refused(0, "set 0 0\u2028set 0 0")
        self.refused(2, "loop 2 {\n}\n")

    def test_nested_too_deep(self):
        four = ["  " * level + "loop 2 {" for level in range(4)]
        back = ["  " * level + "}" for level in range(3, -1, -1)]
        self.assertEqual(read_program(5, 3, "\n".join(four + back)), (loop(2, loop(2, loop(2, loop(2)))),))
        inner = ["        loop 2 {", "        }"]
        self.refused(4, "\n".join(four + inner + back))
        self.refused(5, "\n".join(four + ["        set 0 0"] + inner + back))
        self.refused(5, "\n".join(["set 0 0"] + four + inner + back))
        self.refused(4, "\n".join(four + ["        loop 0 {"]))
        self.refused(4, "\n".join(four + ["        loop 2 {", "          set 9 9"]))
        # Two loops side by side are not nested.
        self.assertEqual(len(read_program(5, 3, "\n".join(four + back + four + back))), 2)

    def test_values_for_p_and_n(self):
        for p, n, x, y, c in itertools.product((2, 3, 10007), (1, 2, 8), (0, 1, 7, 8), (0, 1, 7), (0, 1, 2, 10006, 10007)):
            for line in (f"set {x} {c}", f"copy {x} {y}", f"add {x} {y} {c}", f"scale {x} {c}", f"swap {x} {y}"):
                self.check(p, n, line)
                self.check(p, n, f"loop 2 {{\n  {line}\n}}")
            self.check(p, n, f"read {x}\nwrite {y}")

    def test_values_that_are_no_texts(self):
        for value in (*JUNK, *deep_junk(), 0, 1, -1, 10 ** 79, b"set 0 0", ["set 0 0"], ("set 0 0",), (SET,), L):
            if not isinstance(value, str):
                self.refused(0, value)
        for value in JUNK:
            if isinstance(value, str):
                self.check(5, 3, value)

    def test_programs_beyond_the_limits(self):
        self.assertEqual(size(read_program(5, 3, "\n".join(["set 0 0"] * 200))), 200)
        self.refused(0, "\n".join(["set 0 0"] * 201))
        self.refused(0, "loop 1 {\n" + "  set 0 0\n" * 200 + "}")
        self.assertEqual(size(read_program(5, 3, "loop 1 {\n" + "  set 0 0\n" * 199 + "}")), 200)
        for word in ("read", "write"):
            self.assertEqual(read_program(5, 3, f"loop 2000 {{\n  {word} 0\n}}"), (loop(2000, (word, 0)),))
            self.refused(0, f"loop 2001 {{\n  {word} 0\n}}")
            self.refused(0, f"loop 2000 {{\n  {word} 0\n}}\n{word} 1")
            self.refused(0, f"loop 1000000000000000000 {{\n  {word} 0\n}}")
            self.refused(0, f"set 0 0\nloop 50 {{\n  loop 50 {{\n    {word} 0\n  }}\n}}")
            text = f"loop 0 {{\n  loop 1000000000000000000 {{\n    {word} 0\n  }}\n}}"
            self.assertEqual(read_program(5, 3, text), (loop(0, loop(GREAT, (word, 0))),))
        # A wrong line, or a loop that is not closed, is told first.
        self.refused(201, "\n".join(["set 0 0"] * 201 + ["set 0 5"]))
        self.refused(202, "\n".join(["set 0 0"] * 201 + ["loop 2 {"]))
        self.refused(3, "loop 2001 {\n  read 0\n}\nread 3")
        self.refused(2, "loop 2001 {\n  read 0")

    def test_long_texts(self):
        self.refused(0, "x" * 20000)
        self.refused(0, " " * 20000)
        self.refused(0, "\n" * 20000)
        self.refused(0, "1" * 20000)
        self.refused(4, "\n".join("  " * level + "loop 2 {" for level in range(120)))
        self.assertEqual(length(("loop", 1, read_program(5, 3, "\n".join(["loop 9 {\n}"] * 200)))), 0)


if __name__ == "__main__":
    unittest.main()
