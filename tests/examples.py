"""The values of the document behind [0.22] and in its examples, and values that the package returns."""

from skipahead.base.books import Book
from skipahead.errors import InvalidNumber
from skipahead.line.facts import Facts
from skipahead.line.line import Line, sent
from skipahead.line.servers import Server
from tests.values import PLAIN

BOOK = Book(look=(1, ("full", "room")), new=(0, ("ok",)), put=(2, ("ok",)))
TABLE = {
    "a": {"look": ("room", "a"), "new": ("ok", "a"), "put": ("failed", "b"), "kept": "a"},
    "b": {"look": ("full", "b"), "new": ("ok", "b"), "put": ("ok", "a"), "kept": "b"},
}
MARK = ("mark",)
NEW = ("send", "new", ())
ITEMS = (NEW, ("send", "put", (0, "who")), MARK, ("send", "look", (0,)))


def own_values():
    """Values that the package returns."""
    line = sent(BOOK, ITEMS, ("ok", "ok", "room"))
    return (
        BOOK, iter(BOOK), line, line.trial(), Line(BOOK), line.sequence, line.replies, line.work, line[0],
        Server(BOOK, TABLE, start="a"), Facts(BOOK), Facts(BOOK, new=("ok",)), InvalidNumber(1), TABLE,
    )


VALUES = PLAIN + own_values()


def numbers(limit):
    """Values, of which only the integers from 0 to less than the limit are numbers that fit."""
    return [value for value in VALUES if type(value) is not int or not 0 <= value < limit]
