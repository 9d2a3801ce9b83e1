"""Programs: what a client does with a server, line by line."""

from skipahead.base.books import need_book
from skipahead.base.coding import (
    commands_in, has_line, is_call, is_common_line, lines_on_to, need_line, new_names, registers_in, renamed_lines,
    shifted_line, ways_on, with_line,
)
from skipahead.base.names import is_names
from skipahead.errors import InvalidOperation, InvalidProgram

MAX_LINES = 24
MAX_REGISTERS = 3
MAX_PARAMETERS = 2


class Program:
    """One to 24 lines of a book, with up to two parameters; it never changes."""

    def __init__(self, book, *lines, parameters=()):
        need_book(book)
        if not are_lines(book, lines, parameters):
            raise InvalidProgram("not the lines and the parameters of a program")
        self._book = book
        self._lines = lines
        self._parameters = parameters
        self._registers = registers_in(lines, parameters)
        # What is worked out about the program when it is asked for the first time.
        self._moves = None
        self._plans = {}
        self._reaches = {}

    @classmethod
    def of(cls, book, lines, *, parameters=()):
        """The program with the lines of a tuple."""
        need_book(book)
        if not isinstance(lines, tuple):
            raise InvalidProgram("not a tuple of lines")
        return Program(book, *lines, parameters=parameters)

    @property
    def book(self):
        """The book."""
        return self._book

    @property
    def lines(self):
        """The lines."""
        return self._lines

    @property
    def parameters(self):
        """The ascending tuple of the parameters."""
        return self._parameters

    @property
    def registers(self):
        """The ascending tuple of all registers, with the parameters."""
        return self._registers

    @property
    def commands(self):
        """The ascending tuple of the commands in all lines."""
        return commands_in(self._lines)

    def following(self, at):
        """The numbers of the lines with which a run can go on behind line at, ascending."""
        need_line(self._lines, at)
        return ways_on(self._lines, at)

    def replaced(self, at, line):
        """The program with another line as number at."""
        need_line(self._lines, at)
        return Program.of(self._book, with_line(self._lines, at, line), parameters=self._parameters)

    def renamed(self, registers):
        """The program with other names for registers, as a dict tells."""
        names = new_names(self._registers, self._parameters, registers)
        return Program.of(self._book, renamed_lines(self._lines, names), parameters=self._parameters)

    def __add__(self, other):
        if not isinstance(other, Program) or other._book != self._book or other._parameters != self._parameters:
            raise InvalidOperation("a program is continued with one of an equal book and the same parameters only")
        many = len(self._lines)
        places = list(range(many, many + len(other._lines) + 1))
        behind = tuple([shifted_line(line, places) for line in other._lines])
        return Program.of(self._book, self._lines + behind, parameters=self._parameters)

    def __getitem__(self, at):
        need_line(self._lines, at)
        return self._lines[at]

    def __contains__(self, value):
        return has_line(self._lines, value)

    def __iter__(self):
        return iter(self._lines)

    def __len__(self):
        return len(self._lines)

    def __eq__(self, other):
        if not isinstance(other, Program):
            return False
        return (self._book == other._book and self._lines == other._lines
                and self._parameters == other._parameters)

    def __str__(self):
        return f"program of {len(self._lines)} lines, {len(self._registers)} registers"


def is_program(book, value, *, parameters=()):
    """Whether the value is a tuple of lines with which a program can be made."""
    need_book(book)
    if not are_parameters(parameters):
        raise InvalidProgram("not an ascending tuple of up to two names")
    return isinstance(value, tuple) and are_lines(book, value, parameters)


def are_lines(book, lines, parameters):
    """Whether a program of the book has these lines and these parameters."""
    if not are_parameters(parameters) or not 1 <= len(lines) <= MAX_LINES:
        return False
    if not all([is_common_line(line, len(lines)) or is_call(book, line, "do") for line in lines]):
        return False
    if len(registers_in(lines, parameters)) > MAX_REGISTERS:
        return False
    return all([all(safe) for safe in lines_on_to(lines, ("do", "mark"))])


def are_parameters(value):
    """Whether the value is an ascending tuple of up to two names."""
    return is_names(value) and len(value) <= MAX_PARAMETERS


def need_program(program):
    """Refuses what is not a program."""
    if not isinstance(program, Program):
        raise InvalidProgram("not a program")
