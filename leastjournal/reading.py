"""The text form of programs, as it is read."""

from leastjournal.errors import BadText
from leastjournal.field import is_between
from leastjournal.programs import MAX_DEPTH, MAX_ROUNDS, is_instruction, is_program
from leastjournal.showing import MARGIN

DIGITS = "0123456789"
MAX_DIGITS = 80


class Reader:
    """What the lines read so far have made: the bodies that are open, the program itself first."""

    def __init__(self, p, n):
        self.p = p
        self.n = n
        self.bodies = [[]]
        self.rounds = []

    def takes(self, line):
        """Read a line; return whether it may stand here."""
        if self.rounds != [] and line == MARGIN * (len(self.rounds) - 1) + "}":
            self.close_loop()
            return True
        margin = MARGIN * len(self.rounds)
        if not line.startswith(margin):
            return False
        words = line[len(margin):].split(" ")
        if words[0] == "loop":
            return self.takes_loop(words)
        return self.takes_step(words)

    def close_loop(self):
        """Make an instruction of the innermost loop."""
        body = tuple(self.bodies.pop())
        self.bodies[-1].append(("loop", self.rounds.pop(), body))

    def takes_loop(self, words):
        """Open a loop, if these are the words of its first line."""
        if len(words) != 3 or words[2] != "{" or len(self.rounds) == MAX_DEPTH:
            return False
        number = number_of(words[1])
        if not is_between(number, 0, MAX_ROUNDS):
            return False
        self.rounds.append(number)
        self.bodies.append([])
        return True

    def takes_step(self, words):
        """Append an instruction other than a loop, if these are its words."""
        numbers = [number_of(word) for word in words[1:]]
        instruction = (words[0], *numbers)
        if not is_instruction(self.p, self.n, instruction, 0):
            return False
        self.bodies[-1].append(instruction)
        return True


def read_program(p, n, text):
    """Return the program that any value is the text of."""
    if not isinstance(text, str):
        raise BadText(0)
    # The empty text has no lines; split would make one of it.
    lines = text.split("\n") if text != "" else []
    reader = Reader(p, n)
    for index, line in enumerate(lines):
        if not reader.takes(line):
            raise BadText(index)
    if reader.rounds != []:
        raise BadText(len(lines))
    program = tuple(reader.bodies[0])
    if not is_program(p, n, program):
        raise BadText(0)
    return program


def number_of(word):
    """Return the number that a word is, None if it is no decimal number without a leading zero."""
    # Python refuses to make numbers of very long words, and no number here has more digits.
    if word == "" or len(word) > MAX_DIGITS or not all([sign in DIGITS for sign in word]):
        return None
    if word[0] == "0" and word != "0":
        return None
    return int(word)
