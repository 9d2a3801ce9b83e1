"""Senders that are made at random."""

from skipahead.send.senders import Sender, is_sender
from tests.making import random_line


def random_sender(dice, program, base=None):
    """A sender with the book and the parameters of a program, often much like it, or like another sender."""
    lines = list((base or Sender.plain(program)).lines)
    for _ in range(dice.randrange(5)):
        at = dice.randrange(len(lines))
        kind = dice.randrange(5)
        if kind == 0:
            lines[at] = ("read",)
        elif kind == 1:
            lines[at] = ("copy", dice.choice("pqxy"), dice.choice(("p", "x", "y", None)))
        elif kind == 2:
            lines[at] = random_line(dice, program.book, len(lines), at, ("p", "q", "x", "y"), "send")
        elif kind == 3 and len(lines) > 1:
            del lines[at]
        else:
            lines.append(("read",))
    if is_sender(program.book, tuple(lines), parameters=program.parameters):
        return Sender.of(program.book, tuple(lines), parameters=program.parameters)
    return base or Sender.plain(program)
