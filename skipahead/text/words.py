"""Words and lines of texts."""

from skipahead.base.coding import CALLS
from skipahead.base.items import MARK
from skipahead.errors import ParseError

MAX_DIGITS = 60
ARROW = "->"
NONE = "-"


def lines_of(text):
    """The lines of a text."""
    if not isinstance(text, str):
        raise ParseError(0)
    return text.split("\n")


def is_number(word):
    """Whether a word is a number of at least 0."""
    if not word.isascii() or not word.isdigit() or len(word) > MAX_DIGITS:
        return False
    return word == "0" or word[0] != "0"


def row_text(words):
    """The line with these words; an empty row has an empty line."""
    return " ".join(words)


def result_text(result):
    """The word for a result."""
    return "none" if result is None else result


def item_text(item):
    """The line of an item."""
    if item == MARK:
        return "mark"
    return row_text(["send", item[1]] + [NONE if argument is None else str(argument) for argument in item[2]])


def item_from(words):
    """What these words tell if they are those of an item."""
    if words[0] != "send":
        return tuple(words)
    return ("send", "".join(words[1:2]), tuple([argument_from(word) for word in words[2:]]))


def argument_from(word):
    """What a word tells as an argument."""
    if word == NONE:
        return None
    return int(word) if is_number(word) else word


def line_text(line):
    """The line of a text for a line of a program or a sender."""
    if line[0] not in CALLS:
        return row_text([str(word) for word in line if word is not None])
    target = [] if line[3] is None else [ARROW, line[3]]
    return row_text([line[0], line[1], *line[2], *target])


def line_from(words):
    """What these words tell if they are those of a line of a program or a sender."""
    if words[0] in CALLS:
        target = None
        names = words[2:]
        if len(names) > 1 and names[-2] == ARROW:
            target = names[-1]
            names = names[:-2]
        return (words[0], "".join(words[1:2]), tuple(names), target)
    if words[0] in ("if", "go") and is_number(words[-1]):
        return tuple(words[:-1]) + (int(words[-1]),)
    if words[0] == "copy" and len(words) == 2:
        return ("copy", words[1], None)
    return tuple(words)
