"""The values of the document behind [0.22] and in its examples, and values that the package returns."""

from skipahead.ahead.forward import Forward
from skipahead.ahead.lists import fates, first_stand
from skipahead.ahead.lost import Careful, losses
from skipahead.ahead.saving import least_savings
from skipahead.ahead.waits import wait_paper
from skipahead.ahead.windows import reached_stands
from skipahead.base.books import Book
from skipahead.desk.desk import Desk
from skipahead.desk.journal import Client
from skipahead.errors import InvalidNumber
from skipahead.line.facts import Facts
from skipahead.line.line import Line, sent
from skipahead.line.servers import Server
from skipahead.plain.alike import alike_paper
from skipahead.plain.programs import Program
from skipahead.plain.runs import PlainRun
from skipahead.send.judge import Guard, same_paper
from skipahead.send.making import made_sender
from skipahead.send.senders import Sender, SenderRun
from skipahead.text.columns import run_columns
from skipahead.text.formats import write_program
from tests.values import PLAIN

BOOK = Book(look=(1, ("full", "room")), new=(0, ("ok",)), put=(2, ("ok",)))
TABLE = {
    "a": {"look": ("room", "a"), "new": ("ok", "a"), "put": ("failed", "b"), "kept": "a"},
    "b": {"look": ("full", "b"), "new": ("ok", "b"), "put": ("ok", "a"), "kept": "b"},
}
MARK = ("mark",)
NEW = ("send", "new", ())
ORDER = Program(
    BOOK, ("do", "new", (), "x"), ("do", "put", ("x", "who"), None), ("mark",), ("do", "look", ("x",), None), ("if", "full", 6),
    ("give", "room"), ("do", "new", (), None), ("mark",), ("give", "more"), parameters=("who",))
CAREFUL = Program(
    BOOK, ("do", "new", (), "x"), ("mark",), ("if", "kept", 4), ("give", "no"), ("do", "look", ("x",), None), ("last",))
LOOP = Program(BOOK, ("do", "new", (), None), ("mark",), ("go", 0))
QUICK = Sender(
    BOOK, ("send", "new", (), "x"), ("send", "put", ("x", "who"), None), ("mark",), ("send", "look", ("x",), None), ("read",), ("read",),
    ("read",), ("read",), ("if", "full", 10), ("give", "room"), ("send", "new", (), None), ("mark",), ("give", "more"),
    parameters=("who",))
SERVER = Server(BOOK, TABLE, start="a")
# In each state another outcome or another state, also behind a kept deal.
TURNING = Server(BOOK, {
    "a": {"look": ("full", "b"), "new": ("ok", "a"), "put": ("ok", "b"), "kept": "c"},
    "b": {"look": ("room", "a"), "new": ("failed", "c"), "put": ("ok", "a"), "kept": "a"},
    "c": {"look": ("full", "c"), "new": ("ok", "b"), "put": ("failed", "a"), "kept": "b"},
}, start="a")
SURE = Facts(BOOK, new=("ok",))
ITEMS = (NEW, ("send", "put", (0, "who")), MARK, ("send", "look", (0,)))


def own_values():
    """Values that the package returns."""
    line = sent(BOOK, ITEMS, ("ok", "ok", "room"))
    return (
        BOOK, iter(BOOK), line, line.trial(), Line(BOOK), line.sequence, line.replies, line.work, line[0],
        Server(BOOK, TABLE, start="a"), Facts(BOOK), Facts(BOOK, new=("ok",)), InvalidNumber(1), TABLE,
        ORDER, iter(ORDER), ORDER.lines, PlainRun(ORDER, SERVER), PlainRun(CAREFUL, ("ok",)), first_stand(ORDER),
        alike_paper(ORDER, ORDER), alike_paper(ORDER, ORDER.replaced(8, ("last",))),
        fates(ORDER, first_stand(ORDER), ()), Forward(ORDER, SERVER), Forward(CAREFUL, ("ok",)), wait_paper(ORDER, first_stand(ORDER), window=9),
        QUICK, iter(QUICK), QUICK.lines, SenderRun(QUICK, SERVER), SenderRun(QUICK, ()), same_paper(ORDER, QUICK),
        same_paper(ORDER, QUICK, window=3), Guard(),
        reached_stands(CAREFUL), made_sender(ORDER, window=4), least_savings(ORDER, first_stand(ORDER)), losses(CAREFUL, first_stand(CAREFUL), ()),
        Careful(LOOP, SERVER, doubts=1, window=5), Client(ORDER), Desk(BOOK), run_columns(PlainRun(ORDER, SERVER)), write_program(ORDER),
    )


VALUES = PLAIN + own_values()


def numbers(limit):
    """Values, of which only the integers from 0 to less than the limit are numbers that fit."""
    return [value for value in VALUES if type(value) is not int or not 0 <= value < limit]
