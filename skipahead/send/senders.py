"""Senders: what a client sends and reads, line by line, and their runs."""

from skipahead.base.books import need_book
from skipahead.base.coding import (
    commands_in, has_line, is_call, is_common_line, is_name_or_none, need_line, new_names, registers_in, renamed_lines,
    shifted_line, ways_on, with_line,
)
from skipahead.base.counts import need_count, need_window
from skipahead.base.items import MARK, is_row
from skipahead.base.names import is_name
from skipahead.errors import InvalidRow, InvalidSender, NothingToUndo, TooMany, UnknownName
from skipahead.line.facts import choices_of
from skipahead.line.line import MAX_ITEMS, line_with
from skipahead.line.sources import need_source
from skipahead.line.trials import Trial
from skipahead.line.wire import Wire
from skipahead.plain.moves import END
from skipahead.plain.programs import are_parameters, need_program
from skipahead.plain.runs import MAX_ROW
from skipahead.send.hand import Hand
from skipahead.send.script import script_of

MAX_LINES = 400
MAX_REGISTERS = 24
READ = ("read",)


class Sender:
    """One to 400 lines of a book, with up to two parameters, that can send ahead; it never changes."""

    def __init__(self, book, *lines, parameters=()):
        need_book(book)
        if not are_lines(book, lines, parameters):
            raise InvalidSender("not the lines and the parameters of a sender")
        self._book = book
        self._lines = lines
        self._parameters = parameters
        self._registers = registers_in(lines, parameters)
        # What is worked out about the sender when it is asked for the first time.
        self._script = None

    @classmethod
    def of(cls, book, lines, *, parameters=()):
        """The sender with the lines of a tuple."""
        need_book(book)
        if not isinstance(lines, tuple):
            raise InvalidSender("not a tuple of lines")
        return Sender(book, *lines, parameters=parameters)

    @classmethod
    def plain(cls, program):
        """The sender that does what a program does, and waits for each answer."""
        need_program(program)
        # Of each line, and of the end, where it stands when a line that reads has come behind each item.
        places = []
        many = 0
        for line in program.lines:
            places.append(many)
            many = many + (2 if line[0] in ("do", "mark") else 1)
        places.append(many)
        lines = []
        for line in program.lines:
            if line[0] == "do":
                lines.extend([("send",) + line[1:], READ])
            elif line == MARK:
                lines.extend([MARK, READ])
            else:
                lines.append(shifted_line(line, places))
        return Sender.of(program.book, tuple(lines), parameters=program.parameters)

    @property
    def book(self):
        """The book."""
        return self._book

    @property
    def lines(self):
        """The lines."""
        return self._lines

    @property
    def parameters(self):
        """The ascending tuple of the parameters."""
        return self._parameters

    @property
    def registers(self):
        """The ascending tuple of all registers, with the parameters."""
        return self._registers

    @property
    def commands(self):
        """The ascending tuple of the commands in all lines."""
        return commands_in(self._lines)

    def following(self, at):
        """The numbers of the lines with which a run can go on behind line at, ascending."""
        need_line(self._lines, at)
        return ways_on(self._lines, at)

    def replaced(self, at, line):
        """The sender with another line as number at."""
        need_line(self._lines, at)
        return Sender.of(self._book, with_line(self._lines, at, line), parameters=self._parameters)

    def renamed(self, registers):
        """The sender with other names for registers, as a dict tells."""
        names = new_names(self._registers, self._parameters, registers)
        return Sender.of(self._book, renamed_lines(self._lines, names), parameters=self._parameters)

    def __getitem__(self, at):
        need_line(self._lines, at)
        return self._lines[at]

    def __contains__(self, value):
        return has_line(self._lines, value)

    def __iter__(self):
        return iter(self._lines)

    def __len__(self):
        return len(self._lines)

    def __eq__(self, other):
        if not isinstance(other, Sender):
            return False
        return (self._book == other._book and self._lines == other._lines
                and self._parameters == other._parameters)

    def __str__(self):
        return f"sender of {len(self._lines)} lines, {len(self._registers)} registers"


class SenderRun:
    """A run of a sender with a server or a row, for a window."""

    def __init__(self, sender, server, *, window=16):
        need_sender(sender)
        need_source(sender.book, server)
        need_window(window)
        self._sender = sender
        self._server = server
        self._window = window
        now = Hand(script_of(sender), Wire(choices_of(sender.book, None), server, MAX_ITEMS), window)
        now.set_out()
        self._now = now

    @property
    def sender(self):
        """The sender."""
        return self._sender

    @property
    def server(self):
        """The server, or the row."""
        return self._server

    @property
    def window(self):
        """The window."""
        return self._window

    @property
    def line(self):
        """A line with what was sent."""
        return line_with(self._sender.book, self._now.wire.tape.copied())

    @property
    def work(self):
        """The work of the line."""
        return tuple(self._now.wire.tape.entries)

    @property
    def at(self):
        """The number of the line that it would do next, or that has ended or stopped the run, or of the end."""
        return self._now.here

    @property
    def last(self):
        """The last answer that it has read."""
        return self._now.heard

    @property
    def unread(self):
        """The number of items that it has sent and not read."""
        return len(self._now.unread_now())

    @property
    def state(self):
        """Whether the run is waiting, paused, ended or stopped."""
        return self._now.phase

    @property
    def result(self):
        """The result, or None as long as the run has not ended."""
        return self._now.final()

    @property
    def reason(self):
        """Why the run has stopped, or None."""
        return self._now.cause

    @property
    def waits(self):
        """The number of waits."""
        return len(self._now.rests)

    @property
    def progress(self):
        """How many entries the work had behind 0, 1, .. waits."""
        return tuple(self._now.depths)

    def held(self, name):
        """The origin of what a register holds."""
        if not isinstance(name, str) or name not in self._sender.registers:
            raise UnknownName(name)
        return self._now.origin_in(name)

    def go(self, *, many=1):
        """Waits so many times, or fewer if the run goes on no more, and returns the state."""
        need_count(many)
        before = len(self._now.rests)
        try:
            self._now.go_on(many)
        except (InvalidRow, TooMany):
            self._now.take_back(len(self._now.rests) - before)
            raise
        return self._now.phase

    def undo(self, *, many=1):
        """Takes back the last waits, with all that came behind them, and returns how many are left."""
        need_count(many)
        if many > len(self._now.rests):
            raise NothingToUndo(many)
        return self._now.take_back(many)

    def trial(self):
        """A block that gives the run, and at whose end the run is as it was before."""
        return Trial(self)

    def during(self, call):
        """What a function returns for the run, which then is as it was before."""
        with self.trial() as same:
            return call(same)

    def twin(self):
        """An independent run that has come as far."""
        return come_as_far(SenderRun(Sender(self._sender.book, ("last",)), ()), self)

    def __len__(self):
        return len(self._now.rests)

    def __eq__(self, other):
        if not isinstance(other, SenderRun):
            return False
        if len(self._now.rests) != len(other._now.rests) or self._window != other._window:
            return False
        return self._sender == other._sender and self._server == other._server

    def __str__(self):
        return f"sender run at line {self._now.here} behind {len(self._now.rests)} waits, {self._now.phase}"


def come_as_far(run, other):
    """Gives a new run all that another one has, so that both go on independently, and returns it."""
    run._sender = other._sender
    run._server = other._server
    run._window = other._window
    run._now = other._now.copied()
    return run


def sender_behind(sender, row, *, window=16):
    """The pair of the work and the thing behind it of a run with a row."""
    need_sender(sender)
    if not is_row(sender.book, row):
        raise InvalidRow("not a tuple of outcomes of commands of the book")
    need_window(window)
    hand = Hand(script_of(sender), Wire(choices_of(sender.book, None), row, None), window)
    hand.set_out()
    while hand.phase == "waiting":
        hand.wait_once()
    tape = hand.wire.tape
    if tape.many_tried < len(row):
        raise InvalidRow(f"the run goes on no more behind {tape.many_tried} outcomes")
    if len(row) > MAX_ROW:
        raise TooMany(MAX_ROW)
    return tuple(tape.entries), thing_behind(hand)


def thing_behind(hand):
    """What comes where a run with a row goes on no more."""
    if hand.phase == "ended":
        return END, hand.final()
    if hand.phase == "stopped":
        return "stop", hand.cause
    command = hand.script.calls[hand.here][0]
    return "try", command, tuple([hand.wire.tape.origin_of(argument) for argument in hand.next_arguments()])


def is_sender(book, value, *, parameters=()):
    """Whether the value is a tuple of lines with which a sender can be made."""
    need_book(book)
    if not are_parameters(parameters):
        raise InvalidSender("not an ascending tuple of up to two names")
    return isinstance(value, tuple) and are_lines(book, value, parameters)


def are_lines(book, lines, parameters):
    """Whether a sender of the book has these lines and these parameters."""
    if not are_parameters(parameters) or not 1 <= len(lines) <= MAX_LINES:
        return False
    if not all([is_line(book, line, len(lines)) for line in lines]):
        return False
    return len(registers_in(lines, parameters)) <= MAX_REGISTERS


def is_line(book, value, many):
    """Whether the value is a line of a sender with so many lines."""
    if is_common_line(value, many) or is_call(book, value, "send") or value == READ:
        return True
    if not isinstance(value, tuple) or len(value) != 3:
        return False
    return value[0] == "copy" and is_name(value[1]) and is_name_or_none(value[2])


def need_sender(sender):
    """Refuses what is not a sender."""
    if not isinstance(sender, Sender):
        raise InvalidSender("not a sender")
