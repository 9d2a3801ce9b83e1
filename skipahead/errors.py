"""The errors of the package."""


class AheadError(ValueError):
    """The base of the errors about values that are not what they stand for."""


class InvalidBook(AheadError):
    """This is no book, or these are not the commands of one."""


class InvalidItem(AheadError):
    """This is no item, or none that fits here."""


class InvalidProgram(AheadError):
    """This is no program, or these are not the lines of one."""


class InvalidSender(AheadError):
    """This is no sender, or these are not the lines of one."""


class InvalidServer(AheadError):
    """This is no server, or its table is none."""


class InvalidFacts(AheadError):
    """These are no facts."""


class InvalidRow(AheadError):
    """This is no row, or none that fits here."""


class InvalidStand(AheadError):
    """This is no stand."""


class InvalidOperation(AheadError):
    """This cannot be done with this value."""


class ParseError(AheadError):
    """A text cannot be read further than to the line with this number."""

    def __init__(self, number):
        super().__init__(f"the text cannot be read at line {number!r}")
        self.number = number


class UnknownName(KeyError):
    """Nothing has this name."""

    def __init__(self, name):
        super().__init__(f"nothing is called {name!r}")
        self.name = name


class InvalidNumber(IndexError):
    """This is no number that fits here."""

    def __init__(self, value):
        super().__init__(f"not a number that fits here: {value!r}")
        self.value = value


class NothingToUndo(LookupError):
    """There are not so many steps to take back."""

    def __init__(self, many):
        super().__init__(f"there are not {many!r} steps to take back")
        self.many = many


class TooMany(OverflowError):
    """There would be more than this limit allows."""

    def __init__(self, limit):
        super().__init__(f"more than {limit!r}")
        self.limit = limit


class Unlike(RuntimeError):
    """With this row a sender does not do the same as a program."""

    def __init__(self, row):
        super().__init__(f"not the same with the row {row!r}")
        self.row = row
