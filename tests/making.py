"""Programs and facts that are made at random, with a seed."""

import random

from skipahead.base.books import Book
from skipahead.line.facts import Facts
from skipahead.plain.programs import Program, is_program

BOOKS = (
    Book(a=(1, ("ok",)), b=(0, ("no", "yes"))),
    Book(a=(0, ("ok",)), b=(2, ("x",))),
    Book(look=(1, ("full", "room")), new=(0, ("ok",)), put=(2, ("ok",))),
)
NAMES = ("failed", "kept", "skipped", "undone", "ok", "no", "yes", "full", "room", "x")


def line_with_send(dice, book, word, registers):
    command = dice.choice(book.commands)
    told = tuple(dice.choice(registers) for _ in range(book.takes(command)))
    return (word, command, told, dice.choice(registers + (None,)))


def random_line(dice, book, many, at, registers, word):
    """A line number at of many."""
    kind = dice.randrange(12)
    target = dice.randrange(many + 1) if dice.randrange(4) == 0 else dice.randrange(at + 1, many + 1)
    if kind < 5:
        return line_with_send(dice, book, word, registers)
    if kind < 7:
        return ("mark",)
    if kind < 9:
        return ("if", dice.choice(NAMES), target)
    if kind == 9:
        return ("go", target)
    return ("give", dice.choice(NAMES[:2])) if kind == 10 else ("last",)


def parameters_of(dice):
    return dice.choice(((), ("p",), ("p", "q")))


def random_program(dice, most=10):
    """A program with up to so many lines."""
    while True:
        book = dice.choice(BOOKS)
        parameters = parameters_of(dice)
        registers = ("p", "q", "x")
        many = dice.randrange(1, most + 1)
        lines = tuple(random_line(dice, book, many, at, registers, "do") for at in range(many))
        if is_program(book, lines, parameters=parameters):
            return Program(book, *lines, parameters=parameters)


def deep_line(dice, book, many, at, before):
    """A line number at of many, behind another line: jumps ask for what the line ahead of them can answer."""
    registers = ("p", "q", "x")
    if at == many - 1:
        return dice.choice((("last",), ("give", "no"), ("go", dice.randrange(many)), line_with_send(dice, book, "do", registers)))
    kind = dice.randrange(20)
    target = dice.randrange(at + 1) if dice.randrange(5) == 0 else min(many, at + 2 + dice.randrange(6))
    if kind < 7 and before is not None and before[0] in ("do", "mark"):
        names = ("kept", "undone") if before == ("mark",) else book.outcomes(before[1])
        return ("if", dice.choice(names), target)
    if kind < 16:
        return line_with_send(dice, book, "do", registers)
    return ("mark",) if kind < 19 else ("go", target)


def deep_program(dice, most=24):
    """A program with up to so many lines, whose runs go far and in different ways."""
    while True:
        book = dice.choice(BOOKS)
        many = dice.randrange(2, most + 1)
        lines = []
        for at in range(many):
            lines.append(deep_line(dice, book, many, at, lines[-1] if lines else None))
        parameters = parameters_of(dice)
        if is_program(book, tuple(lines), parameters=parameters):
            return Program(book, *lines, parameters=parameters)


def deals_program(dice, deals=7):
    """A program of many short deals, some of which it does again or passes over if they were undone."""
    book = dice.choice(BOOKS)
    lines = []
    for _ in range(deals):
        for _ in range(dice.choice((1, 1, 2))):
            lines.append(line_with_send(dice, book, "do", ("p", "x")))
        lines.append(("mark",))
    for at in range(len(lines)):
        if lines[at] == ("mark",) and at > 1 and dice.randrange(5) == 0 and len(lines) < 24:
            # The jump takes the place of a command behind the mark.
            if at + 2 < len(lines) and lines[at + 2] == ("mark",):
                lines[at + 1] = ("if", dice.choice(("kept", "undone")), dice.choice((0, len(lines))))
    lines = tuple(lines[:24])
    return Program(book, *lines) if is_program(book, lines) else deals_program(dice, deals)


def random_facts(dice, book):
    """None, or facts of a book."""
    if dice.randrange(2) == 0:
        return None
    told = {}
    for command in book:
        left = tuple(outcome for outcome in book.outcomes(command) if dice.randrange(3))
        if any(outcome != "failed" for outcome in left):
            told[command] = left
    return Facts.of(book, told)


def seeded(seed):
    return random.Random(seed)
