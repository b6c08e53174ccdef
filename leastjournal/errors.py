"""The errors of the package. The wording of their messages is free; callers read the attributes."""


class JournalError(ValueError):
    """Any error that the package raises."""


class BadField(JournalError):
    """The field is not a prime from 2 to 10007."""

    def __init__(self, value):
        super().__init__("not a prime from 2 to 10007")
        self.value = value


class BadRegisters(JournalError):
    """The registers are not a tuple of 1 to 8 field elements."""

    def __init__(self, value):
        super().__init__("not a tuple of 1 to 8 field elements")
        self.value = value


class BadProgram(JournalError):
    """The value is not a program for this field and these registers."""

    def __init__(self, value):
        super().__init__("not a program for this field and these registers")
        self.value = value


class BadInputs(JournalError):
    """The inputs are not a tuple of as many field elements as the program reads."""

    def __init__(self, value):
        super().__init__("not a tuple of as many field elements as are read")
        self.value = value


class BadMoment(JournalError):
    """The program has no such moment or step."""

    def __init__(self, moment):
        super().__init__("no such moment or step")
        self.moment = moment


class BadRegister(JournalError):
    """There is no such register."""

    def __init__(self, x):
        super().__init__("no such register")
        self.x = x


class BadState(JournalError):
    """No machine with this program ever has this snapshot."""

    def __init__(self, state):
        super().__init__("no machine with this program has this snapshot")
        self.state = state


class BadText(JournalError):
    """The text is not the text of a program; line is the index of the line that is wrong."""

    def __init__(self, line):
        super().__init__("not the text of a program")
        self.line = line


class BadCommand(JournalError):
    """A session has no such command."""

    def __init__(self, command):
        super().__init__("no such command")
        self.command = command


class TooLong(JournalError):
    """The program has too many steps or instructions."""

    def __init__(self, size):
        super().__init__("too many steps or instructions")
        self.size = size


class TooDeep(JournalError):
    """The loops of the program are nested too deep."""

    def __init__(self, depth):
        super().__init__("loops nested too deep")
        self.depth = depth


class NoStep(JournalError):
    """There is no step to execute or to undo."""


class NotEnough(JournalError):
    """The plan is not sufficient."""
