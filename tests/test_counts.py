"""Points 3 and 6: size, depth, step_count, read_count and write_count."""

import unittest

from leastjournal.programs import depth, read_count, size, step_count, write_count
from tests.helpers import GREAT, READ, SET, WRITE, frozen, loop, small_programs, walk

COUNTS = (size, depth, step_count, read_count, write_count)


def listed(program, level=0):
    """Return the level of each instruction of the program, loops and bodies counted once each."""
    levels = []
    for instruction in program:
        levels.append(level)
        if instruction[0] == "loop":
            levels += listed(instruction[2], level + 1)
    return levels


def loop_levels(program):
    """Return how many loops are around the innermost body, 0 without loops."""
    return max([1 + loop_levels(part[2]) for part in program if part[0] == "loop"], default=0)


class CountsTest(unittest.TestCase):
    def check(self, program, *expected):
        before = frozen(program)
        answers = tuple(count(program) for count in COUNTS)
        self.assertEqual(answers, expected, program)
        for answer in answers:
            self.assertIs(type(answer), int)
        self.assertEqual(tuple(count(program=program) for count in COUNTS), expected)
        self.assertEqual(frozen(program), before)

    def test_against_a_walk(self):
        for _, _, program in small_programs():
            words = [instruction[0] for _, instruction in walk(program)]
            self.check(
                program,
                len(listed(program)),
                loop_levels(program),
                len(words),
                words.count("read"),
                words.count("write"),
            )

    def test_without_loops(self):
        self.check((), 0, 0, 0, 0, 0)
        self.check((SET,), 1, 0, 1, 0, 0)
        self.check((SET, READ, WRITE, READ), 4, 0, 4, 2, 1)

    def test_empty_bodies_and_zero_rounds(self):
        self.check((loop(0),), 1, 1, 0, 0, 0)
        self.check((loop(GREAT),), 1, 1, 0, 0, 0)
        self.check((loop(0, READ, WRITE, SET),), 4, 1, 0, 0, 0)
        self.check((loop(GREAT, loop(0, READ, WRITE, SET)),), 5, 2, 0, 0, 0)
        self.check((loop(0, loop(GREAT, READ, WRITE, SET)),), 5, 2, 0, 0, 0)
        self.check((loop(GREAT, loop(GREAT), loop(GREAT)),), 3, 2, 0, 0, 0)

    def test_depth_is_of_the_deepest_loop(self):
        self.assertEqual(depth((loop(1, loop(1, loop(0))), loop(1))), 3)
        self.assertEqual(depth((loop(1), loop(1), loop(1))), 1)
        self.assertEqual(depth((loop(1), SET, loop(1, SET, loop(1, SET, loop(2, loop(1)))), SET)), 4)

    def test_great_loops(self):
        body = (("copy", 2, 1), ("copy", 1, 0), SET)
        self.check((loop(GREAT, *body),), 4, 1, 3 * GREAT, 0, 0)
        self.check((SET, loop(GREAT, *body), SET), 6, 1, 3 * GREAT + 2, 0, 0)
        nest = (loop(GREAT, SET, loop(GREAT, SET, loop(GREAT, SET, loop(GREAT, SET)))),)
        self.check(nest, 8, 4, GREAT + GREAT ** 2 + GREAT ** 3 + GREAT ** 4, 0, 0)
        mixed = (loop(7, loop(11, READ, WRITE, WRITE), loop(GREAT, SET, SET), loop(0, READ)), READ, loop(GREAT - 1, SET))
        self.check(mixed, 13, 2, 7 * (33 + 2 * GREAT) + GREAT, 78, 154)

    def test_beyond_the_limits(self):
        self.check((loop(GREAT, READ, WRITE), loop(GREAT, READ)), 5, 1, 3 * GREAT, 2 * GREAT, GREAT)
        self.check((SET,) * 5000, 5000, 0, 5000, 0, 0)
        self.check((loop(2, loop(2, loop(2, loop(2, loop(2, READ))))),), 6, 5, 32, 32, 0)


if __name__ == "__main__":
    unittest.main()
