"""The line: what is sent down it, and the work that this comes to."""

from skipahead.base.books import need_book, outcomes_of, pairs_of
from skipahead.base.counts import is_count, need_count
from skipahead.base.items import MARK, can_stand, is_argument, is_behind, is_item, is_item_with, is_items, is_row
from skipahead.base.names import is_name
from skipahead.errors import InvalidItem, InvalidNumber, InvalidOperation, InvalidRow, NothingToUndo, TooMany
from skipahead.line.tape import KEPT, Tape
from skipahead.line.trials import Trial

MAX_ITEMS = 2000


class Line:
    """A line of a book, with the items that were sent and the answers to them."""

    def __init__(self, book):
        need_book(book)
        self._book = book
        self._now = Tape()

    @property
    def book(self):
        """The book."""
        return self._book

    @property
    def sequence(self):
        """The items that were sent."""
        return tuple(self._now.taken)

    @property
    def replies(self):
        """The answers to the items."""
        return tuple(self._now.said)

    @property
    def work(self):
        """The entries of the tried commands and of the kept deals."""
        return tuple(self._now.entries)

    @property
    def tried(self):
        """The number of tried commands."""
        return self._now.many_tried

    @property
    def kept(self):
        """The number of kept deals in which something was tried."""
        return len(self._now.entries) - self._now.many_tried

    @property
    def deal(self):
        """Whether the deal is fresh, open or broken."""
        return self._now.mood

    def is_tried(self, item):
        """Whether the server would try this item now."""
        need_next_item(self._book, self._now, item)
        return self._now.tries(item)

    def send(self, item, *, outcome=None):
        """Sends an item, which has this outcome if it is tried, and returns the answer to it."""
        return send_on(self._book, self._now, item, outcome)

    def origin(self, argument):
        """The origin of an argument that could stand in the next item."""
        taken = self._now.taken
        if not is_argument(argument) or not can_stand(argument, taken, len(taken)):
            raise InvalidItem(f"not an argument of the next item: {argument!r}")
        return self._now.origin_of(argument)

    def undo(self, *, many=1):
        """Takes back the last items and returns how many are left."""
        need_count(many)
        if many > len(self._now.taken):
            raise NothingToUndo(many)
        return self._now.take_back(many)

    def trial(self):
        """A block that gives the line, and at whose end the line is as it was before."""
        return Trial(self)

    def during(self, call):
        """What a function returns for the line, which then is as it was before."""
        with self.trial() as same:
            return call(same)

    def twin(self):
        """An independent line with the same items and answers."""
        return line_with(self._book, self._now.copied())

    def __iadd__(self, items):
        if not isinstance(items, tuple) or not all([is_item(self._book, item) for item in items]):
            raise InvalidItem("not a tuple of items")
        # A refused item must leave the line without the ones ahead of it, too.
        tape = self._now.copied()
        for item in items:
            send_on(self._book, tape, item, None)
        self._now = tape
        return self

    def __getitem__(self, index):
        if not is_count(index) or index >= len(self._now.taken):
            raise InvalidNumber(index)
        return self._now.taken[index], self._now.said[index]

    def __iter__(self):
        raise TypeError("a line is not iterated over")

    def __len__(self):
        return len(self._now.taken)

    def __eq__(self, other):
        if not isinstance(other, Line):
            return False
        return self._book == other._book and self.sequence == other.sequence and self.replies == other.replies

    def __str__(self):
        return f"line with {len(self._now.taken)} items, {self.deal}"


def line_with(book, tape):
    """The line of a book with what stands on a tape."""
    line = Line(book)
    line._now = tape
    return line


def need_next_item(book, tape, item):
    """Refuses what cannot be sent as the next item."""
    if not is_item_with(pairs_of(book), item) or not is_behind(item, tape.taken, len(tape.taken)):
        raise InvalidItem(f"not an item that can be sent next: {item!r}")


def send_on(book, tape, item, outcome):
    """Sends an item down a line with this tape, and returns the answer to it."""
    need_next_item(book, tape, item)
    if item == MARK or tape.mood == "broken":
        if outcome is not None:
            raise InvalidOperation(f"an item that is not tried has no outcome: {outcome!r}")
    elif outcome not in outcomes_of(book)[item[1]]:
        raise InvalidOperation(f"not an outcome of the command {item[1]}, which is tried: {outcome!r}")
    if len(tape.taken) >= MAX_ITEMS:
        raise TooMany(MAX_ITEMS)
    return tape.take(item, outcome)


def is_work(book, value):
    """Whether the value is the work of some line of the book."""
    need_book(book)
    if not isinstance(value, tuple):
        return False
    pairs = pairs_of(book)
    done = []
    can_keep = False
    for entry in value:
        if entry == KEPT:
            if not can_keep:
                return False
            can_keep = False
        else:
            if not is_entry(pairs, entry, done):
                return False
            can_keep = entry[2] != "failed"
            done.append(can_keep)
    return True


def is_entry(pairs, value, done):
    """Whether the value is an entry of a tried command, where done tells of each earlier one whether it was done."""
    if not isinstance(value, tuple) or len(value) != 3:
        return False
    command, origins, outcome = value
    if not isinstance(command, str) or command not in pairs:
        return False
    takes, answers = pairs[command]
    if not isinstance(origins, tuple) or len(origins) != takes:
        return False
    for origin in origins:
        if origin is not None and not is_origin(origin, done):
            return False
    return outcome == "failed" or outcome in answers


def is_origin(value, done):
    """Whether the value is an origin, where done tells of each earlier tried command whether it was done."""
    if isinstance(value, str):
        return is_name(value)
    return value is None or (is_count(value) and value < len(done) and done[value])


def sent(book, items, row):
    """The line with the items, as far as they can be sent with the row."""
    if not is_items(book, items):
        raise InvalidItem("not a tuple of items, each index that of an earlier item with a command")
    if not is_row(book, row):
        raise InvalidRow("not a tuple of outcomes of commands of the book")
    tape = tape_with(book, items, row)
    if len(tape.taken) > MAX_ITEMS:
        raise TooMany(MAX_ITEMS)
    return line_with(book, tape)


def tape_with(book, items, row):
    """The tape with the items as far as they can be sent with the row, however many."""
    tape = Tape()
    used = 0
    for item in items:
        if not tape.tries(item):
            tape.take(item, None)
        elif used == len(row):
            break
        elif row[used] not in book.outcomes(item[1]):
            raise InvalidRow(f"not an outcome of the command {item[1]}: {row[used]}")
        else:
            tape.take(item, row[used])
            used = used + 1
    if used < len(row):
        raise InvalidRow(f"the items try {used} commands only")
    return tape
