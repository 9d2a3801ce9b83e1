"""Facts: what outcomes the commands of a book can have."""

from skipahead.base.books import need_book
from skipahead.base.names import is_names
from skipahead.errors import InvalidFacts, InvalidOperation, InvalidServer, UnknownName
from skipahead.line.line import is_work
from skipahead.line.servers import Server


class Facts:
    """Facts that leave each command of a book some of its outcomes; they never change."""

    def __init__(self, book, **outcomes):
        need_book(book)
        self._book = book
        self._left = checked_outcomes(book, outcomes)

    @classmethod
    def of(cls, book, outcomes):
        """The facts with the outcomes of a dict."""
        need_book(book)
        return facts_with(book, checked_outcomes(book, outcomes))

    def outcomes(self, command):
        """The ascending tuple of the outcomes that a command can have."""
        if command not in self._book:
            raise UnknownName(command)
        return self._left[command]

    def without(self, command, outcome):
        """The facts that leave a command one outcome less."""
        left = self.outcomes(command)
        if outcome not in left:
            raise InvalidOperation(f"not left of the command {command}: {outcome!r}")
        fewer = tuple([name for name in left if name != outcome])
        if not has_answer(fewer):
            raise InvalidOperation(f"the only answer of the command {command}: {outcome}")
        return facts_with(self._book, {**self._left, command: fewer})

    def is_within(self, other):
        """Whether other facts leave all that these leave."""
        need_like(self, other)
        return all([name in other._left[command] for command in self._left for name in self._left[command]])

    def allows(self, work):
        """Whether a work has no outcomes but those that are left."""
        if not is_work(self._book, work):
            raise InvalidOperation("not a work of the book")
        return all([entry[2] in self._left[entry[0]] for entry in work if entry != ("kept",)])

    def obeyed_by(self, server):
        """Whether a server gives in none of its states an outcome that is not left."""
        if not isinstance(server, Server) or server.book != self._book:
            raise InvalidServer("not a server with the book of the facts")
        table = server.table
        return all([table[state][command][0] in self._left[command] for state in table for command in self._left])

    def __and__(self, other):
        need_like(self, other)
        left = {command: shared(self._left[command], other._left[command]) for command in self._left}
        if not all([has_answer(left[command]) for command in left]):
            raise InvalidOperation("a command would have no answer left")
        return facts_with(self._book, left)

    def __or__(self, other):
        need_like(self, other)
        left = {command: joined(self._left[command], other._left[command]) for command in self._left}
        return facts_with(self._book, left)

    def __eq__(self, other):
        if not isinstance(other, Facts):
            return False
        return self._book == other._book and self._left == other._left

    def __bool__(self):
        return any([self._left[command] != self._book.outcomes(command) for command in self._left])

    def __str__(self):
        lacking = [command for command in self._left if self._left[command] != self._book.outcomes(command)]
        if not lacking:
            return "no facts"
        return "; ".join([told(command, self._left[command]) for command in lacking])


def facts_with(book, left):
    """The facts that leave this, which is told for each command of the book in ascending order."""
    facts = Facts(book)
    facts._left = left
    return facts


def checked_outcomes(book, outcomes):
    """What facts with these outcomes leave each command of the book."""
    if not isinstance(outcomes, dict):
        raise InvalidFacts("facts have a dict of outcomes")
    for command in outcomes:
        if command not in book:
            raise InvalidFacts(f"not a command of the book: {command!r}")
        if not can_be_left(book, command, outcomes[command]):
            raise InvalidFacts(f"not what facts can leave of the command {command}: {outcomes[command]!r}")
    return {command: outcomes.get(command, book.outcomes(command)) for command in book}


def can_be_left(book, command, value):
    """Whether the value is an ascending tuple of outcomes of the command, at least one answer among them."""
    if not is_names(value) or not has_answer(value):
        return False
    return all([outcome in book.outcomes(command) for outcome in value])


def has_answer(outcomes):
    """Whether some of the outcomes of a command is an answer."""
    return any([outcome != "failed" for outcome in outcomes])


def shared(one, other):
    """The outcomes that stand in both tuples."""
    return tuple([outcome for outcome in one if outcome in other])


def joined(one, other):
    """The ascending tuple of the outcomes that stand in one of the tuples."""
    return tuple(sorted(set(one + other)))


def told(command, outcomes):
    """The text of what is left of a command."""
    names = ", ".join(outcomes)
    return f"{command}: {names}"


def need_like(facts, other):
    """Refuses what is not facts with the book of these facts."""
    if not isinstance(other, Facts) or other._book != facts._book:
        raise InvalidOperation("not facts with an equal book")


def need_facts(book, facts):
    """Refuses what is neither None nor facts of an equal book."""
    if facts is not None and (not isinstance(facts, Facts) or facts._book != book):
        raise InvalidFacts("not facts of an equal book")


def choices_of(book, facts):
    """The outcomes that each command can have; None are no facts."""
    return {command: book.outcomes(command) if facts is None else facts.outcomes(command) for command in book}
