"""Books: the commands that a server knows."""

from skipahead.base.counts import is_count
from skipahead.base.names import RESERVED, is_answer, is_names
from skipahead.errors import InvalidBook, InvalidOperation, UnknownName

MAX_COMMANDS = 6
MAX_TAKES = 2
MAX_ANSWERS = 3


class Book:
    """One to six commands, each with how many arguments it takes and its answers; it never changes."""

    def __init__(self, **commands):
        self._pairs = checked_pairs(commands)
        self._outcomes = outcomes_in(self._pairs)

    @classmethod
    def of(cls, commands):
        """The book with the commands of a dict."""
        return book_with(checked_pairs(commands))

    @property
    def commands(self):
        """The ascending tuple of the commands."""
        return tuple(self._pairs)

    def takes(self, command):
        """How many arguments a command takes."""
        return self[command][0]

    def answers(self, command):
        """The ascending tuple of the answers of a command."""
        return self[command][1]

    def outcomes(self, command):
        """The ascending tuple of the outcomes of a command."""
        if command not in self:
            raise UnknownName(command)
        return self._outcomes[command]

    def without(self, command):
        """The book that lacks a command."""
        if command not in self:
            raise UnknownName(command)
        if len(self) == 1:
            raise InvalidOperation("a book has at least one command")
        return book_with({name: self._pairs[name] for name in self._pairs if name != command})

    def is_within(self, other):
        """Whether another book has all commands of this one, with the same pairs."""
        need_book(other)
        return all([command in other and other[command] == self[command] for command in self._pairs])

    def __or__(self, other):
        if not isinstance(other, Book):
            raise InvalidOperation("a book is joined with a book only")
        if any([command in other and other[command] != self[command] for command in self._pairs]):
            raise InvalidOperation("a command of both books is not the same in both")
        pairs = {**self._pairs, **other._pairs}
        if len(pairs) > MAX_COMMANDS:
            raise InvalidOperation(f"a book has at most {MAX_COMMANDS} commands")
        return book_with({command: pairs[command] for command in sorted(pairs)})

    def __getitem__(self, command):
        if command not in self:
            raise UnknownName(command)
        return self._pairs[command]

    def __contains__(self, value):
        return isinstance(value, str) and value in self._pairs

    def __iter__(self):
        return iter(self._pairs)

    def __len__(self):
        return len(self._pairs)

    def __eq__(self, other):
        if not isinstance(other, Book):
            return False
        return self._pairs == other._pairs

    def __str__(self):
        return f"book of {len(self._pairs)} commands"


def book_with(pairs):
    """The book with these pairs, which are those of a book and stand in ascending order."""
    # A command may be called self, and cannot be passed by keyword then; so the pairs go in behind the call.
    book = Book(only=(0, ("ok",)))
    book._pairs = pairs
    book._outcomes = outcomes_in(pairs)
    return book


def outcomes_in(pairs):
    """The ascending tuples of the outcomes of the commands with these pairs."""
    return {command: tuple(sorted(pairs[command][1] + ("failed",))) for command in pairs}


def outcomes_of(book):
    """The dict of the outcomes of each command of a book, which is not to be changed."""
    return book._outcomes


def pairs_of(book):
    """The dict of the pairs of each command of a book, which is not to be changed."""
    return book._pairs


def checked_pairs(commands):
    """The commands of a book with their pairs, ascending."""
    if not isinstance(commands, dict) or not 1 <= len(commands) <= MAX_COMMANDS:
        raise InvalidBook(f"a book has a dict of one to {MAX_COMMANDS} commands")
    for command in commands:
        if not is_answer(command):
            raise InvalidBook(f"not the name of a command: {command!r}")
        if not is_pair(commands[command]):
            raise InvalidBook(f"not what the command {command} takes and its answers: {commands[command]!r}")
    return {command: commands[command] for command in sorted(commands)}


def is_pair(value):
    """Whether the value tells what a command takes, and its answers."""
    if not isinstance(value, tuple) or len(value) != 2:
        return False
    takes, answers = value
    if not is_count(takes) or takes > MAX_TAKES:
        return False
    if not is_names(answers) or not 1 <= len(answers) <= MAX_ANSWERS:
        return False
    return not any([name in RESERVED for name in answers])


def need_book(book):
    """Refuses what is not a book."""
    if not isinstance(book, Book):
        raise InvalidBook("not a book")
