"""Facts: what outcomes the commands of a book can have."""

from skipahead.base.books import need_book, outcomes_of
from skipahead.errors import InvalidFacts, InvalidOperation, InvalidServer, UnknownName
from skipahead.line.line import is_work
from skipahead.line.servers import Server
from skipahead.line.tape import KEPT


class Facts:
    """Facts that leave each command of a book some of its outcomes; they never change."""

    def __init__(self, book, **outcomes):
        need_book(book)
        self._book = book
        self._left = checked_outcomes(book, outcomes)

    @classmethod
    def of(cls, book, outcomes):
        """The facts with the outcomes of a dict."""
        need_book(book)
        return facts_with(book, checked_outcomes(book, outcomes))

    def outcomes(self, command):
        """The ascending tuple of the outcomes that a command can have."""
        if command not in self._book:
            raise UnknownName(command)
        return self._left[command]

    def without(self, command, outcome):
        """The facts that leave a command one outcome less."""
        left = self.outcomes(command)
        if outcome not in left:
            raise InvalidOperation(f"not left of the command {command}: {outcome!r}")
        fewer = tuple([name for name in left if name != outcome])
        if not has_answer(fewer):
            raise InvalidOperation(f"the only answer of the command {command}: {outcome}")
        return facts_with(self._book, {**self._left, command: fewer})

    def is_within(self, other):
        """Whether other facts leave all that these leave."""
        need_like(self, other)
        return all([name in other._left[command] for command in self._left for name in self._left[command]])

    def allows(self, work):
        """Whether a work has no outcomes but those that are left."""
        if not is_work(self._book, work):
            raise InvalidOperation("not a work of the book")
        return all([entry[2] in self._left[entry[0]] for entry in work if entry != KEPT])

    def obeyed_by(self, server):
        """Whether a server gives in none of its states an outcome that is not left."""
        if not isinstance(server, Server) or server.book != self._book:
            raise InvalidServer("not a server with the book of the facts")
        table = server.table
        return all([table[state][command][0] in self._left[command] for state in table for command in self._left])

    def __and__(self, other):
        need_like(self, other)
        left = {command: shared(self._left[command], other._left[command]) for command in self._left}
        for command in left:
            if not has_answer(left[command]):
                raise InvalidOperation(f"the command {command} would have no answer left")
        return facts_with(self._book, left)

    def __or__(self, other):
        need_like(self, other)
        left = {command: joined(self._left[command], other._left[command]) for command in self._left}
        return facts_with(self._book, left)

    def __eq__(self, other):
        if not isinstance(other, Facts):
            return False
        return self._book == other._book and self._left == other._left

    def __bool__(self):
        return bool(self._left != outcomes_of(self._book))

    def __str__(self):
        left = lacking(self)
        if not left:
            return "no facts"
        return "; ".join([told(command, left[command]) for command in left])


def facts_with(book, left):
    """The facts that leave this, which is told for each command of the book in ascending order."""
    facts = Facts(book)
    facts._left = left
    return facts


def lacking(facts):
    """The outcomes that are left of each command that lacks one."""
    choices = outcomes_of(facts._book)
    return {command: facts._left[command] for command in choices if facts._left[command] != choices[command]}


def checked_outcomes(book, outcomes):
    """What facts with these outcomes leave each command of the book."""
    if not isinstance(outcomes, dict):
        raise InvalidFacts("facts have a dict of outcomes")
    left = dict(outcomes_of(book))
    for command in outcomes:
        if command not in left:
            raise InvalidFacts(f"not a command of the book: {command!r}")
        if not can_be_left(left[command], outcomes[command]):
            raise InvalidFacts(f"not what facts can leave of the command {command}: {outcomes[command]!r}")
        left[command] = outcomes[command]
    return left


def can_be_left(choices, value):
    """Whether the value is an ascending tuple of these outcomes, at least one answer among them."""
    if value == choices:
        return True
    return isinstance(value, tuple) and value == shared(choices, value) and has_answer(value)


def has_answer(outcomes):
    """Whether some of these different outcomes is an answer."""
    return outcomes != () and outcomes != ("failed",)


def shared(one, other):
    """The outcomes that stand in both tuples."""
    return one if one == other else tuple([outcome for outcome in one if outcome in other])


def joined(one, other):
    """The ascending tuple of the outcomes that stand in one of the tuples."""
    return tuple(sorted(set(one + other)))


def told(command, outcomes):
    """The text of what is left of a command."""
    names = ", ".join(outcomes)
    return f"{command}: {names}"


def need_like(facts, other):
    """Refuses what is not facts with the book of these facts."""
    if not isinstance(other, Facts) or other._book != facts._book:
        raise InvalidOperation("not facts with an equal book")


def need_facts(book, facts):
    """Refuses what is neither None nor facts of an equal book."""
    if facts is not None and not are_facts(book, facts):
        raise InvalidFacts("not facts of an equal book")


def are_facts(book, value):
    """Whether the value is facts of an equal book."""
    return isinstance(value, Facts) and value._book == book


def choices_of(book, facts):
    """The outcomes that each command can have; None are no facts."""
    return dict(outcomes_of(book)) if facts is None else dict(facts._left)


def left_by(book, facts):
    """The tuple of the outcomes that each command can have; equal facts have equal ones, and None those of no facts."""
    choices = outcomes_of(book) if facts is None else facts._left
    return tuple([choices[command] for command in choices])
