"""The errors of the package, each directly under StepError."""


class StepError(ValueError):
    """Any error of the package."""


class BadProgram(StepError):
    """What is given as a program is none."""


class BadText(StepError):
    """What is given as a text of a program is none; place is where that shows."""

    def __init__(self, place):
        super().__init__(f"no text of a program, seen at place {place}")
        self.place = place


class NotChecked(StepError):
    """A program is not checked; what is the result of check."""

    def __init__(self, what):
        super().__init__(f"the program is not checked: {what}")
        self.what = what


class BadCore(StepError):
    """What is given as a core is none."""


class BadName(StepError):
    """What is given as a function's name is none."""


class BadRow(StepError):
    """What is given as the index of a row is none."""


class BadKind(StepError):
    """What is given as a kind is none."""


class BadArgs(StepError):
    """What is given as arguments, or as a value's words, is none."""


class BadLimit(StepError):
    """What is given as a limit is none."""


class BadPrices(StepError):
    """What is given as prices of a core is none."""


class BadLog(StepError):
    """What is given as a log is none."""


class NotLet(StepError):
    """A step is not let; index is its place in the log."""

    def __init__(self, index):
        super().__init__(f"the step {index} is not let")
        self.index = index


class BadImage(StepError):
    """What is given as an image is none."""


class Unfit(StepError):
    """An image does not fit the core."""


class BadListing(StepError):
    """What is given as a text of an image is none; line is the first wrong line."""

    def __init__(self, line):
        super().__init__(f"no text of an image, seen at line {line}")
        self.line = line


class BadEffort(StepError):
    """What is given as an effort is none."""


class Refused(StepError):
    """The code judge refuses an image; name, row and address tell where."""

    def __init__(self, name, row, address):
        super().__init__(f"refused in {name} at row {row} and address {address}")
        self.name = name
        self.row = row
        self.address = address


class BadMeasures(StepError):
    """What is given as measures is none."""


class BadNumber(StepError):
    """What is given as the number of a measure is none."""


class BadBook(StepError):
    """What is given as a book is none."""


class BadNever(StepError):
    """What is given as the numbers that are never below 0 is none."""


class BadGoal(StepError):
    """What is given as a goal is none."""


class BadHints(StepError):
    """What is given as hints is none."""


class BadShowings(StepError):
    """What is given as showings is none."""


class BadIndex(StepError):
    """What is given as the index of a claim is none."""


class BadNeeds(StepError):
    """Arguments do not keep the needs of their function."""


class BadRatio(StepError):
    """What is given as a ratio is none."""


class ZeroBottom(StepError):
    """A ratio would have the bottom 0."""


class BadSystem(StepError):
    """What is given as a system of lines is none."""


class BadLine(StepError):
    """What is given as a line of a system is none."""


class BadTemplate(StepError):
    """What is given as a template of claims is none."""


class BadPoint(StepError):
    """What is given as a point that keeps a system is none."""


class BadWeights(StepError):
    """What is given as weights is none."""


class BadLevels(StepError):
    """What is given as levels is none."""


class NotNew(StepError):
    """Claims and showings do not go behind a book's own."""


class TooGreat(StepError):
    """A system would have too many unknowns or rows."""
