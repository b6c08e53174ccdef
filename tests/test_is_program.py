"""Points 2, 3 and 6: is_program."""

import unittest

from leastjournal.programs import is_program
from tests.helpers import GREAT, JUNK, READ, SET, WRITE, deep_junk, frozen, loop, nested, small_programs


class IsProgramTest(unittest.TestCase):
    def check(self, expected, value, p=5, n=3):
        before = frozen(value)
        self.assertIs(is_program(p, n, value), expected, before[:300])
        self.assertEqual(frozen(value), before)

    def good(self, value, p=5, n=3):
        self.check(True, value, p, n)

    def bad(self, value, p=5, n=3):
        self.check(False, value, p, n)

    def bad_instruction(self, instruction, p=5, n=3):
        """It is refused alone, among others and in a body."""
        self.bad((instruction,), p, n)
        self.bad((SET, instruction, READ), p, n)
        self.bad((loop(2, SET, instruction),), p, n)
        self.bad((loop(0, loop(0, instruction)),), p, n)

    def test_each_instruction(self):
        for instruction in (
            ("set", 0, 0),
            ("set", 2, 4),
            ("copy", 1, 0),
            ("copy", 0, 2),
            ("add", 0, 1, 1),
            ("add", 2, 1, 4),
            ("scale", 2, 0),
            ("scale", 0, 4),
            ("swap", 0, 1),
            ("swap", 2, 0),
            ("read", 0),
            ("read", 2),
            ("write", 0),
            ("write", 2),
            ("loop", 0, ()),
            ("loop", GREAT, ()),
            ("loop", 3, (("set", 1, 1), ("loop", 0, (("read", 0),)))),
        ):
            self.good((instruction,))
            self.good((SET, instruction, instruction))
            self.good((loop(2, instruction),))

    def test_empty_program(self):
        self.good(())
        self.good((), 2, 1)

    def test_programs_made_by_a_seed(self):
        for p, n, program in small_programs():
            self.good(program, p, n)
            self.good(program, 10007, 8)
            self.bad(list(program), p, n)
            self.bad((program,), p, n)

    def test_edges_of_p_and_n(self):
        self.good((("set", 0, 1), ("scale", 0, 0), ("read", 0), ("write", 0)), 2, 1)
        self.bad((("set", 0, 2),), 2, 1)
        self.bad((("set", 1, 1),), 2, 1)
        self.bad((("swap", 0, 0),), 2, 1)
        self.bad((("copy", 0, 1),), 2, 1)
        self.good((("add", 7, 0, 10006), ("set", 7, 10006)), 10007, 8)
        self.bad((("add", 7, 0, 10007),), 10007, 8)
        self.bad((("add", 8, 0, 10006),), 10007, 8)
        self.good((("add", 0, 1, 1),), 2, 2)
        self.bad((("add", 0, 1, 2),), 2, 2)

    def test_wrong_word(self):
        for word in ("Set", "SET", "set ", "", "mul", "sub", "jump", "end", None, True, 0, b"set", ("set",), ["set"], {}):
            self.bad_instruction((word, 0, 0))
            self.bad_instruction((word, 0, 1))
            self.bad_instruction((word, 0, 1, 1))
            self.bad_instruction((word, 0))
            self.bad_instruction((word,))
            self.bad_instruction((word, 2, ()))

    def test_words_of_other_instructions(self):
        self.bad_instruction(("copy", 1, 0, 1))
        self.bad_instruction(("add", 1, 0))
        self.bad_instruction(("set", 0))
        self.bad_instruction(("read", 0, 0))
        self.bad_instruction(("swap", 0))
        self.bad_instruction(("scale", 0, 1, 1))
        self.bad_instruction(("loop", 1))
        self.bad_instruction(("set", 1, 0, 1))

    def test_wrong_number_of_parts(self):
        for instruction in (
            ("set", 0, 1),
            ("copy", 1, 0),
            ("add", 0, 1, 1),
            ("scale", 0, 1),
            ("swap", 0, 1),
            ("read", 0),
            ("write", 0),
            ("loop", 2, ()),
        ):
            for many in range(len(instruction)):
                self.bad_instruction(instruction[:many])
            for more in (0, 1, 2, None, (), "x"):
                self.bad_instruction(instruction + (more,))

    def test_wrong_registers(self):
        wrong = (-1, 3, 4, 10 ** 79, -(10 ** 79), True, False, None, "0", (0,), [0], {}, (), 0.0)
        for x in wrong:
            self.bad_instruction(("set", x, 1))
            self.bad_instruction(("scale", x, 1))
            self.bad_instruction(("read", x))
            self.bad_instruction(("write", x))
            for word, rest in (("copy", ()), ("add", (1,)), ("swap", ())):
                self.bad_instruction((word, x, 2) + rest)
                self.bad_instruction((word, 2, x) + rest)

    def test_equal_registers(self):
        for x in range(3):
            self.bad_instruction(("copy", x, x))
            self.bad_instruction(("add", x, x, 1))
            self.bad_instruction(("swap", x, x))

    def test_wrong_field_elements(self):
        wrong = (-1, 5, 6, 10 ** 79, -(10 ** 79), True, False, None, "1", (1,), [1], {}, (), 1.0)
        for c in wrong:
            self.bad_instruction(("set", 0, c))
            self.bad_instruction(("scale", 0, c))
            self.bad_instruction(("add", 0, 1, c))
        self.bad_instruction(("add", 0, 1, 0))

    def test_wrong_rounds(self):
        for k in (-1, GREAT + 1, 10 ** 79, True, False, None, "2", (2,), [2], {}, (), 2.0):
            self.bad_instruction(("loop", k, ()))
            self.bad_instruction(("loop", k, (SET,)))

    def test_wrong_body(self):
        for body in (None, True, 0, "", "set", [], [SET], {}, SET, (None,), (0,), ((),), ([],), (list(SET),), ("set",)):
            self.bad_instruction(("loop", 2, body))
            self.bad(body)

    def test_a_list_for_a_tuple(self):
        self.bad([])
        self.bad([SET])
        self.bad_instruction(["set", 0, 0])
        self.bad_instruction(["loop", 2, ()])
        self.bad_instruction(("loop", 2, [SET]))

    def test_any_value(self):
        for value in (*JUNK, *deep_junk()):
            self.check(value == (), value)
            self.bad_instruction(value)
            self.bad({"program": value})
            self.bad([value])

    def test_limit_of_size(self):
        self.good((SET,) * 200)
        self.bad((SET,) * 201)
        self.good((loop(GREAT, *(SET,) * 199),))
        self.bad((loop(GREAT, *(SET,) * 200),))
        self.bad((loop(0, *(SET,) * 200),))
        self.good((SET,) * 98 + (loop(1, loop(1, *(SET,) * 50)),) * 1 + (SET,) * 50)
        self.bad((SET,) * 99 + (loop(1, loop(1, *(SET,) * 50)),) * 1 + (SET,) * 50)
        self.good((loop(1),) * 200)
        self.bad((loop(1),) * 201)
        self.good((loop(1, SET),) * 100)
        self.bad((loop(1, SET),) * 100 + (SET,))

    def test_limit_of_depth(self):
        for core in ((), (SET,)):
            self.good(nested(lambda body: (loop(GREAT, *body),), 4, core))
            self.bad(nested(lambda body: (loop(GREAT, *body),), 5, core))
            self.good(nested(lambda body: (loop(0, *body), SET), 4, core))
            self.bad(nested(lambda body: (loop(0, *body), SET), 5, core))
            self.bad(nested(lambda body: (SET, loop(1), loop(1, *body)), 5, core))
        self.bad((SET, loop(1, SET, loop(1, loop(1, loop(1, SET, loop(0)))))))

    def test_limit_of_rounds(self):
        self.good((loop(GREAT, SET),))
        self.bad((loop(GREAT + 1, SET),))
        self.good((loop(GREAT, loop(GREAT, SET)),))
        self.bad((loop(GREAT, loop(GREAT + 1, SET)),))

    def test_limits_of_reads_and_writes(self):
        for one in (READ, WRITE):
            self.good((loop(2000, one),))
            self.bad((loop(2001, one),))
            self.good((loop(1999, one), one))
            self.bad((loop(2000, one), one))
            self.good((loop(40, loop(50, one)),))
            self.bad((loop(40, loop(50, one), one),))
            self.good((loop(10, loop(10, loop(10, one, one))),))
            self.bad((loop(10, loop(10, loop(10, one, one)), loop(0, one)), loop(1, one)))
            self.bad((loop(GREAT, one),))
            self.good((loop(0, loop(GREAT, one)), loop(2000, one)))
            self.good((loop(GREAT, loop(0, one)), loop(2000, one)))
        self.good((loop(2000, READ, WRITE),))
        self.bad((loop(2000, READ, WRITE), READ))
        self.bad((loop(2000, READ, WRITE), WRITE))
        self.good((loop(2000, READ, WRITE), loop(GREAT, SET)))

    def test_by_name(self):
        self.assertIs(is_program(p=5, n=3, value=(SET,)), True)
        self.assertIs(is_program(value=SET, n=3, p=5), False)


if __name__ == "__main__":
    unittest.main()
