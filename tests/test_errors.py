"""Points 2 and 17: the error classes and their attributes."""

import copy
import inspect
import pickle
import unittest

from leastjournal import errors
from leastjournal.errors import JournalError
from tests.helpers import JUNK

WITH_VALUE = {
    "BadField": "value",
    "BadRegisters": "value",
    "BadProgram": "value",
    "BadInputs": "value",
    "BadMoment": "moment",
    "BadRegister": "x",
    "BadState": "state",
    "BadText": "line",
    "BadCommand": "command",
    "TooLong": "size",
    "TooDeep": "depth",
}
WITHOUT_VALUE = ("NoStep", "NotEnough")
VALUES = JUNK + (0, 1, -1, 10 ** 79, 2 * 10 ** 72, (3, (4, 3), (2,), ()), "goto 2")


def made_errors():
    """Return (name, error) for each class, made in each way."""
    made = [(name, getattr(errors, name)()) for name in WITHOUT_VALUE]
    for name, attribute in WITH_VALUE.items():
        kind = getattr(errors, name)
        made.append((name, kind(5)))
        made.append((name, kind(**{attribute: 5})))
    return made


class ErrorsTest(unittest.TestCase):
    def test_the_module_has_just_these_classes(self):
        names = [name for name, kind in inspect.getmembers(errors, inspect.isclass) if kind.__module__ == errors.__name__]
        self.assertEqual(sorted(names), sorted([*WITH_VALUE, *WITHOUT_VALUE, "JournalError"]))

    def test_direct_subclasses(self):
        self.assertEqual(JournalError.__bases__, (ValueError,))
        for name in (*WITH_VALUE, *WITHOUT_VALUE):
            self.assertEqual(getattr(errors, name).__bases__, (JournalError,), name)

    def test_value_by_position_is_the_attribute(self):
        for name, attribute in WITH_VALUE.items():
            for value in VALUES:
                made = getattr(errors, name)(value)
                self.assertIs(getattr(made, attribute), value)
                self.assertEqual(list(vars(made)), [attribute])

    def test_value_by_keyword_is_the_attribute(self):
        for name, attribute in WITH_VALUE.items():
            for value in VALUES:
                made = getattr(errors, name)(**{attribute: value})
                self.assertIs(getattr(made, attribute), value)
                self.assertEqual(list(vars(made)), [attribute])

    def test_a_value_is_required_where_there_is_one(self):
        for name in WITH_VALUE:
            with self.assertRaises(TypeError):
                getattr(errors, name)()
            with self.assertRaises(TypeError):
                getattr(errors, name)(1, 2)

    def test_no_value_has_no_attributes(self):
        for name in WITHOUT_VALUE:
            self.assertEqual(vars(getattr(errors, name)()), {})

    def test_each_is_an_instance_of_no_other(self):
        for name, made in made_errors():
            self.assertIsInstance(made, JournalError)
            self.assertIsInstance(made, ValueError)
            for other in (*WITH_VALUE, *WITHOUT_VALUE):
                self.assertEqual(isinstance(made, getattr(errors, other)), other == name, (name, other))

    def test_each_can_be_raised_and_caught(self):
        for name, made in made_errors():
            for kind in (getattr(errors, name), JournalError, ValueError):
                with self.assertRaises(kind) as caught:
                    raise made
                self.assertIs(caught.exception, made)

    def test_each_can_be_copied(self):
        for name, made in made_errors():
            for again in (copy.copy(made), pickle.loads(pickle.dumps(made))):
                self.assertIsInstance(again, getattr(errors, name))
                self.assertEqual(vars(again), vars(made))


if __name__ == "__main__":
    unittest.main()
