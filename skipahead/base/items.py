"""Items that go down the line, and rows of outcomes."""

from skipahead.base.books import need_book, pairs_of
from skipahead.base.counts import is_count
from skipahead.base.names import is_name

MARK = ("mark",)


def is_item(book, value):
    """Whether the value has the form of an item of the book."""
    need_book(book)
    return is_item_with(pairs_of(book), value)


def is_item_with(pairs, value):
    """Whether the value has the form of an item, where the commands of the book have these pairs."""
    if not isinstance(value, tuple) or len(value) != 3:
        return value == MARK
    word, command, arguments = value
    if word != "send" or not isinstance(command, str) or command not in pairs:
        return False
    if not isinstance(arguments, tuple) or len(arguments) != pairs[command][0]:
        return False
    return arguments == () or all([is_argument(argument) for argument in arguments])


def is_items(book, value):
    """Whether the value is a tuple of items, in which each index is that of an earlier item with a command."""
    need_book(book)
    pairs = pairs_of(book)
    if not isinstance(value, tuple) or not all([is_item_with(pairs, item) for item in value]):
        return False
    return all([is_behind(item, value, at) for at, item in enumerate(value)])


def is_row(book, value):
    """Whether the value is a tuple of outcomes of commands of the book."""
    need_book(book)
    if not isinstance(value, tuple):
        return False
    known = [outcome for command in book for outcome in book.outcomes(command)]
    return all([outcome in known for outcome in value])


def is_argument(value):
    """Whether the value is a parameter, an index, or None."""
    return value is None or is_name(value) or is_count(value)


def can_stand(argument, items, at):
    """Whether an argument, if it is an index, is that of an item with a command ahead of number at of the items."""
    return not is_count(argument) or (argument < at and items[argument] != MARK)


def is_behind(item, items, at):
    """Whether an item can stand as number at of the items."""
    return item == MARK or item[2] == () or all([can_stand(argument, items, at) for argument in item[2]])
