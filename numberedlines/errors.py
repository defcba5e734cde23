"""The refusals of numberedlines, each with the fields that it is made with."""


class LineError(ValueError):
    """What is handed in is refused."""


class TooGreat(LineError):
    """A line's number would be more than 9999."""


class Reckoned(LineError):
    """A line's number is reckoned only as the program runs, so it cannot be led."""

    def __init__(self, line):
        self.line = line


class NoTarget(LineError):
    """A line names the number of a line that there is not."""

    def __init__(self, line, target):
        self.line = line
        self.target = target


class TooMany(LineError):
    """There would be more lines, or more lists to try, than are allowed."""


class NoChange(LineError):
    """What was handed in is no change of a program."""


class NoProgram(LineError):
    """What was handed in is no program."""


class NoWorth(LineError):
    """What was handed in is no worth."""


class NoText(LineError):
    """What was handed in is not written as it must be; line tells where."""

    def __init__(self, line):
        self.line = line


class NoLine(LineError):
    """There is no such line; number is what was asked, None if that is no whole number."""

    def __init__(self, number):
        self.number = number


class NoRun(LookupError):
    """There is no such run; name is what was asked, None if that is no text."""

    def __init__(self, name):
        self.name = name


class NoBack(LookupError):
    """There is no deed that could be taken back."""
