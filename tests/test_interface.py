"""Point 2 and the interface: names, arguments, and the files that define them."""

import ast
import inspect
import pathlib
import unittest

from leastjournal import (
    backward,
    errors,
    field,
    forms,
    losses,
    machine,
    plans,
    programs,
    readable,
    reading,
    runs,
    same,
    session,
    showing,
)

PACKAGE = pathlib.Path(__file__).resolve().parent.parent / "leastjournal"

FUNCTIONS = {
    field: {
        "is_prime": ("value",),
        "inverse": ("p", "a"),
        "rank": ("p", "rows"),
        "weights": ("p", "rows", "row"),
    },
    programs: {
        "is_program": ("p", "n", "value"),
        "size": ("program",),
        "depth": ("program",),
        "step_count": ("program",),
        "read_count": ("program",),
        "write_count": ("program",),
        "locate": ("program", "step"),
        "reads_before": ("program", "moment"),
        "last_assignment": ("program", "moment", "x"),
    },
    runs: {
        "run": ("p", "program", "registers", "inputs"),
    },
    forms: {
        "forms": ("p", "n", "program", "moment"),
        "state_at": ("p", "program", "registers", "inputs", "moment"),
        "outputs_at": ("p", "program", "registers", "inputs", "moment"),
    },
    losses: {
        "loss": ("p", "n", "program", "moment"),
        "pushes": ("p", "n", "program", "moment"),
        "recovery": ("p", "n", "program", "step"),
    },
    machine: {
        "resume": ("p", "program", "state"),
    },
    readable: {
        "readable": ("p", "n", "program", "now", "then", "x"),
        "shows_readable": ("p", "n", "program", "now", "then", "x", "value"),
    },
    plans: {
        "is_plan": ("n", "program", "moment", "value"),
        "own_plan": ("p", "n", "program", "moment"),
        "sufficient": ("p", "n", "program", "moment", "plan"),
        "unlike": ("p", "n", "program", "moment", "plan"),
        "shows_unlike": ("p", "n", "program", "moment", "plan", "value"),
        "shrunk": ("p", "n", "program", "moment", "plan"),
    },
    backward: {
        "backward": ("p", "n", "program"),
    },
    same: {
        "differ": ("p", "n", "one", "other"),
        "shows_differ": ("p", "n", "one", "other", "value"),
    },
    showing: {
        "show_program": ("program",),
    },
    reading: {
        "read_program": ("p", "n", "text"),
    },
}

CLASSES = {
    errors: (
        "JournalError",
        "BadField",
        "BadRegisters",
        "BadProgram",
        "BadInputs",
        "BadMoment",
        "BadRegister",
        "BadState",
        "BadText",
        "BadCommand",
        "TooLong",
        "TooDeep",
        "NoStep",
        "NotEnough",
    ),
    machine: ("Machine",),
    session: ("Session",),
}

METHODS = {
    machine.Machine: {
        "__init__": ("self", "p", "program", "registers", "inputs"),
        "__len__": ("self",),
        "__eq__": ("self", "other"),
        "now": ("self",),
        "registers": ("self",),
        "journal": ("self",),
        "pending": ("self",),
        "outputs": ("self",),
        "snapshot": ("self",),
        "step": ("self",),
        "back": ("self",),
        "goto": ("self", "moment"),
        "peek": ("self", "x", "moment"),
        "last_assignment": ("self", "x"),
    },
    session.Session: {
        "__init__": ("self", "p", "text", "registers", "inputs"),
        "run": ("self", "command"),
    },
}


def defined(module, kind):
    """Return the names that the file of a module defines at module level."""
    tree = ast.parse(pathlib.Path(module.__file__).read_text(encoding="utf-8"))
    return [node.name for node in tree.body if isinstance(node, kind)]


class InterfaceTest(unittest.TestCase):
    def test_functions_and_their_arguments(self):
        for module, functions in FUNCTIONS.items():
            for name, arguments in functions.items():
                self.assertIn(name, defined(module, ast.FunctionDef))
                parameters = inspect.signature(getattr(module, name)).parameters.values()
                self.assertEqual(tuple(one.name for one in parameters), arguments, name)
                for one in parameters:
                    self.assertEqual(one.kind, inspect.Parameter.POSITIONAL_OR_KEYWORD)

    def test_classes(self):
        for module, names in CLASSES.items():
            for name in names:
                self.assertIn(name, defined(module, ast.ClassDef))

    def test_methods_stand_in_their_class(self):
        for kind, methods in METHODS.items():
            for name, arguments in methods.items():
                self.assertEqual(tuple(inspect.signature(vars(kind)[name]).parameters), arguments, name)
        for kind in METHODS:
            self.assertEqual(inspect.signature(kind).parameters["inputs"].default, ())

    def test_modules_are_files_of_the_package(self):
        for module in (*FUNCTIONS, *CLASSES):
            self.assertEqual(pathlib.Path(module.__file__).resolve().parent, PACKAGE)


if __name__ == "__main__":
    unittest.main()
