"""The values of the document behind [0.22] and in its examples, and values that the package returns."""

from skipahead.ahead.lists import fates, first_stand
from skipahead.base.books import Book
from skipahead.errors import InvalidNumber
from skipahead.line.facts import Facts
from skipahead.line.line import Line, sent
from skipahead.line.servers import Server
from skipahead.plain.alike import alike_paper
from skipahead.plain.programs import Program
from skipahead.plain.runs import PlainRun
from tests.values import PLAIN

BOOK = Book(look=(1, ("full", "room")), new=(0, ("ok",)), put=(2, ("ok",)))
TABLE = {
    "a": {"look": ("room", "a"), "new": ("ok", "a"), "put": ("failed", "b"), "kept": "a"},
    "b": {"look": ("full", "b"), "new": ("ok", "b"), "put": ("ok", "a"), "kept": "b"},
}
MARK = ("mark",)
NEW = ("send", "new", ())
ORDER = Program(
    BOOK, ("do", "new", (), "x"), ("do", "put", ("x", "who"), None), ("mark",), ("do", "look", ("x",), None), ("if", "full", 6),
    ("give", "room"), ("do", "new", (), None), ("mark",), ("give", "more"), parameters=("who",))
CAREFUL = Program(
    BOOK, ("do", "new", (), "x"), ("mark",), ("if", "kept", 4), ("give", "no"), ("do", "look", ("x",), None), ("last",))
LOOP = Program(BOOK, ("do", "new", (), None), ("mark",), ("go", 0))
SERVER = Server(BOOK, TABLE, start="a")
SURE = Facts(BOOK, new=("ok",))
ITEMS = (NEW, ("send", "put", (0, "who")), MARK, ("send", "look", (0,)))


def own_values():
    """Values that the package returns."""
    line = sent(BOOK, ITEMS, ("ok", "ok", "room"))
    return (
        BOOK, iter(BOOK), line, line.trial(), Line(BOOK), line.sequence, line.replies, line.work, line[0],
        Server(BOOK, TABLE, start="a"), Facts(BOOK), Facts(BOOK, new=("ok",)), InvalidNumber(1), TABLE,
        ORDER, iter(ORDER), ORDER.lines, PlainRun(ORDER, SERVER), PlainRun(CAREFUL, ("ok",)), first_stand(ORDER),
        alike_paper(ORDER, ORDER), alike_paper(ORDER, ORDER.replaced(8, ("last",))),
        fates(ORDER, first_stand(ORDER), ()),
    )


VALUES = PLAIN + own_values()


def numbers(limit):
    """Values, of which only the integers from 0 to less than the limit are numbers that fit."""
    return [value for value in VALUES if type(value) is not int or not 0 <= value < limit]
