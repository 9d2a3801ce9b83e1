"""Places of runs, and the numbers of the classes of values in them."""

from skipahead.base.coding import is_name_or_none
from skipahead.base.counts import is_count
from skipahead.base.items import MARK
from skipahead.plain.moves import END


def is_end(value):
    """Whether the value is the place of a run that has ended."""
    return isinstance(value, tuple) and len(value) == 2 and value[0] == END and is_name_or_none(value[1])


def is_place(program, value, deal):
    """Whether the value has the form of a place in this deal, if the numbers of its classes are right."""
    if is_end(value):
        return True
    if not isinstance(value, tuple) or len(value) != 2:
        return False
    return is_work_line(program, value[0], deal) and is_held(program, value[1])


def is_work_line(program, value, deal):
    """Whether the value is the number of a line with a command, or, in an open deal, with a mark."""
    if not is_count(value) or value >= len(program.lines):
        return False
    line = program.lines[value]
    return line[0] == "do" or (deal == "open" and line == MARK)


def is_held(program, value):
    """Whether the value tells what the registers of a program can hold, each class once."""
    registers = program.registers
    if not isinstance(value, tuple) or len(value) != len(registers):
        return False
    classes = {}
    for name, held in zip(registers, value):
        if is_count(held):
            if held in classes:
                return False
            classes[held] = True
        elif held is not None and not (held == name and name in program.parameters):
            return False
    return True


def held_at(place):
    """What the registers hold at a place."""
    return () if place[0] == END else place[1]


def is_numbered(held):
    """Whether the classes are numbered from 0 in the order in which they stand here."""
    many = 0
    for value in held:
        if isinstance(value, int):
            if value > many:
                return False
            many = max(many, value + 1)
    return True


def numbers_of(held):
    """The number of each class, in the order in which they stand here."""
    numbers = {}
    for value in held:
        if isinstance(value, int) and value not in numbers:
            numbers[value] = len(numbers)
    return numbers


def numbered(place, numbers):
    """The place with other numbers of its classes."""
    if place[0] == END:
        return place
    return place[0], tuple([numbers.get(value, value) for value in place[1]])
