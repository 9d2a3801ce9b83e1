"""The desk: programs, senders, facts and a window, and the commands for them."""

from skipahead.ahead.forward import Forward
from skipahead.ahead.lists import first_stand, forced_list
from skipahead.ahead.waits import wait_paper
from skipahead.base.books import need_book
from skipahead.base.counts import need_window
from skipahead.base.names import is_name
from skipahead.errors import (
    InvalidNumber, InvalidProgram, InvalidRow, InvalidSender, InvalidServer, ParseError, TooMany, UnknownName,
)
from skipahead.line.facts import Facts
from skipahead.plain.alike import alike_paper
from skipahead.plain.programs import Program
from skipahead.send.judge import same_paper
from skipahead.send.making import made_sender
from skipahead.send.senders import SenderRun
from skipahead.text.columns import run_columns
from skipahead.text.formats import read_facts, read_program, read_sender, write_items
from skipahead.text.words import is_number, result_text, row_text

MAX_WAITS = 50
# The words behind each command; a last one with a star stands for any number of names.
SHAPES = {
    "program": ("name",), "sender": ("name",), "drop": ("name",), "names": (), "facts": (), "window": ("number",),
    "list": ("name",), "run": ("name", "names*"), "alike": ("name", "name"), "same": ("name", "name"),
    "made": ("name", "name"), "undo": (),
}
# The commands that have further lines.
LONGER = ("program", "sender", "facts")
# Of how many names behind each command something has to be kept.
ASKED = {"drop": 1, "list": 1, "run": 1, "alike": 2, "same": 2, "made": 1}


def do_program(desk, words, text):
    """Keeps a program."""
    program = read_program(desk._book, text)
    desk._keep(words[0], program)
    return f"kept {len(program)}"


def do_sender(desk, words, text):
    """Keeps a sender."""
    sender = read_sender(desk._book, text)
    desk._keep(words[0], sender)
    return f"kept {len(sender)}"


def do_drop(desk, words, text):
    """Keeps something no more."""
    desk._remember()
    desk._kept = {name: desk._kept[name] for name in desk._kept if name != words[0]}
    return "dropped"


def do_names(desk, words, text):
    """Tells what is kept."""
    return "\n".join([f"{name} {kind_of(desk._kept[name])} {len(desk._kept[name])}" for name in desk.names])


def do_facts(desk, words, text):
    """Takes other facts."""
    facts = read_facts(desk._book, text)
    desk._remember()
    desk._facts = facts
    return f"facts {facts}"


def do_window(desk, words, text):
    """Takes another window."""
    window = int(words[0])
    need_window(window)
    desk._remember()
    desk._window = window
    return f"window {window}"


def do_list(desk, words, text):
    """Tells what a program sends at its beginning."""
    program = desk[words[0]]
    stand = first_stand(program)
    items = forced_list(program, stand, window=desk._window, facts=desk._facts)
    paper = wait_paper(program, stand, window=desk._window, facts=desk._facts)
    end = f"ends {result_text(paper[1])}" if paper[0] == "ends" else paper[0]
    return "\n".join([write_items(items), end]) if items else end


def do_run(desk, words, text):
    """Shows a run with a row."""
    code = desk[words[0]]
    row = tuple(words[1:])
    if isinstance(code, Program):
        run = Forward(code, row, window=desk._window, facts=desk._facts)
    else:
        run = SenderRun(code, row, window=desk._window)
    run.go(many=MAX_WAITS)
    return "\n".join(run_columns(run))


def do_alike(desk, words, text):
    """Tells whether two programs are alike."""
    kind, told = alike_paper(desk[words[0]], desk[words[1]])
    return f"alike {len(told)}" if kind == "alike" else row_text([kind, *told])


def do_same(desk, words, text):
    """Tells whether a sender does the same as a program."""
    kind, told = same_paper(desk[words[0]], desk[words[1]], window=desk._window, facts=desk._facts)
    return kind if kind == "same" else row_text([kind, *told])


def do_made(desk, words, text):
    """Keeps a made sender."""
    desk._keep(words[1], made_sender(desk[words[0]], window=desk._window, facts=desk._facts))
    return "kept"


def do_undo(desk, words, text):
    """Takes back the last command that has changed something."""
    if not desk._past:
        return "nothing"
    desk._kept, desk._window, desk._facts = desk._past.pop()
    return "undone"


ACTIONS = {
    "program": do_program, "sender": do_sender, "drop": do_drop, "names": do_names, "facts": do_facts,
    "window": do_window, "list": do_list, "run": do_run, "alike": do_alike, "same": do_same, "made": do_made,
    "undo": do_undo,
}


class Desk:
    """Keeps programs, senders, facts and a window, and does commands."""

    def __init__(self, book):
        need_book(book)
        self._book = book
        self._kept = {}
        self._window = 16
        self._facts = Facts(book)
        # What was kept ahead of each command that has changed something.
        self._past = []

    @property
    def window(self):
        """The window."""
        return self._window

    @property
    def facts(self):
        """The facts."""
        return self._facts

    @property
    def names(self):
        """The ascending tuple of the names under which something is kept."""
        return tuple(sorted(self._kept))

    def __call__(self, text):
        if not isinstance(text, str):
            raise ParseError(0)
        head, sign, rest = text.partition("\n")
        words = head.split(" ")
        if not is_command(words) or (sign != "" and words[0] not in LONGER):
            return "what"
        for name in words[1:1 + ASKED.get(words[0], 0)]:
            if name not in self:
                return f"unknown {name}"
        return answered(self, words, rest)

    def _keep(self, name, code):
        self._remember()
        self._kept = {**self._kept, name: code}

    def _remember(self):
        self._past.append((self._kept, self._window, self._facts))

    def __getitem__(self, name):
        if name not in self:
            raise UnknownName(name)
        return self._kept[name]

    def __contains__(self, name):
        return isinstance(name, str) and name in self._kept

    def __iter__(self):
        raise TypeError("a desk is not iterated over")

    def __len__(self):
        return len(self._kept)


def answered(desk, words, text):
    """The answer to a command that has the right form."""
    action = ACTIONS[words[0]]
    try:
        return action(desk, words[1:], text)
    except ParseError as error:
        return f"line {error.number + 1}"
    except InvalidNumber:
        return "InvalidNumber"
    except InvalidProgram:
        return "InvalidProgram"
    except InvalidSender:
        return "InvalidSender"
    except InvalidServer:
        return "InvalidServer"
    except InvalidRow:
        return "InvalidRow"
    except TooMany:
        return "TooMany"


def is_command(words):
    """Whether these are the words of a command."""
    if words[0] not in SHAPES:
        return False
    shape = SHAPES[words[0]]
    further = words[1:]
    if shape and shape[-1] == "names*":
        shape = shape[:-1] + ("name",) * (len(further) - len(shape) + 1)
    if len(further) != len(shape):
        return False
    return all([is_number(word) if kind == "number" else is_name(word) for word, kind in zip(further, shape)])


def kind_of(code):
    """What is kept, in a word."""
    return "program" if isinstance(code, Program) else "sender"
