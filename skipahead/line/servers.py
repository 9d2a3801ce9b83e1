"""Servers that are tables."""

from skipahead.base.books import need_book, outcomes_of
from skipahead.base.names import is_name
from skipahead.errors import InvalidOperation, InvalidServer, UnknownName
from skipahead.line.line import is_work

MAX_STATES = 12


class Server:
    """A server that gives outcomes as the table of its states tells; it never changes."""

    def __init__(self, book, table, *, start):
        need_book(book)
        self._book = book
        self._table = checked_table(book, table)
        if not is_state(self._table, start):
            raise UnknownName(start)
        self._start = start

    @classmethod
    def steady(cls, book, outcomes):
        """The server with the one state s that gives each command always the same outcome."""
        need_book(book)
        if not isinstance(outcomes, dict) or len(outcomes) != len(book):
            raise InvalidServer("not a dict from all commands to outcomes")
        if not all([command in outcomes for command in book]):
            raise InvalidServer("an outcome of some command is missing")
        entries = {command: (outcomes[command], "s") for command in book}
        return cls(book, {"s": {**entries, "kept": "s"}}, start="s")

    @property
    def book(self):
        """The book."""
        return self._book

    @property
    def states(self):
        """The ascending tuple of the states."""
        return tuple(self._table)

    @property
    def start(self):
        """The state in which the server begins."""
        return self._start

    @property
    def table(self):
        """A new dict from the states to what the server does in them."""
        return {state: dict(self._table[state]) for state in self._table}

    def outcome(self, work, command):
        """The outcome that a command has behind a work."""
        state = self._state_behind(work)
        if command not in self._book:
            raise UnknownName(command)
        return self._table[state][command][0]

    def with_state(self, state, entries):
        """The server with a state more, or with another dict for a state."""
        if not is_name(state):
            raise InvalidServer(f"not the name of a state: {state!r}")
        return Server(self._book, {**self._table, state: entries}, start=self._start)

    def __call__(self, work):
        return self._state_behind(work)

    def _state_behind(self, work):
        if not is_work(self._book, work):
            raise InvalidOperation("not a work of the book")
        state = self._start
        for entry in work:
            if entry == ("kept",):
                state = self._table[state]["kept"]
            else:
                outcome, behind = self._table[state][entry[0]]
                if outcome != entry[2]:
                    raise InvalidOperation(f"the server gives another outcome than in {entry!r}")
                state = behind
        return state

    def __eq__(self, other):
        if not isinstance(other, Server):
            return False
        return self._book == other._book and self._table == other._table and self._start == other._start

    def __len__(self):
        return len(self._table)

    def __str__(self):
        return f"server with {len(self._table)} states"


def table_of(server):
    """The table of a server, which is not to be changed."""
    return server._table


def checked_table(book, table):
    """A new dict with what a table of the book tells, its keys ascending."""
    if not isinstance(table, dict) or not 1 <= len(table) <= MAX_STATES:
        raise InvalidServer(f"a table is a dict of one to {MAX_STATES} states")
    choices = outcomes_of(book)
    for state in table:
        if not is_name(state):
            raise InvalidServer(f"not the name of a state: {state!r}")
        if not are_entries(choices, table, table[state]):
            raise InvalidServer(f"not what a server does in the state {state}: {table[state]!r}")
    keys = sorted([*choices, "kept"])
    return {state: {key: table[state][key] for key in keys} for state in sorted(table)}


def are_entries(choices, table, value):
    """Whether the value tells what a server with this table does in one state, where commands have these outcomes."""
    if not isinstance(value, dict) or len(value) != len(choices) + 1:
        return False
    for command in choices:
        if command not in value or not is_step(choices[command], table, value[command]):
            return False
    return "kept" in value and is_state(table, value["kept"])


def is_step(outcomes, table, value):
    """Whether the value is a pair of one of these outcomes and a state of the table."""
    if not isinstance(value, tuple) or len(value) != 2:
        return False
    return value[0] in outcomes and isinstance(value[1], str) and value[1] in table


def is_state(table, value):
    """Whether the value is a state of the table."""
    return isinstance(value, str) and value in table
