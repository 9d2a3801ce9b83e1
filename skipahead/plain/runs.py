"""Plain runs, which wait for each answer, and what a program does with a row."""

from skipahead.base.coding import result_at
from skipahead.base.counts import need_count
from skipahead.base.items import is_row
from skipahead.errors import InvalidRow, InvalidServer, NothingToUndo, TooMany, UnknownName
from skipahead.line.facts import choices_of
from skipahead.line.line import MAX_ITEMS, line_with
from skipahead.line.servers import Server, table_of
from skipahead.line.sources import need_source
from skipahead.line.tape import KEPT
from skipahead.line.trials import Trial
from skipahead.line.wire import Wire
from skipahead.plain.course import Course
from skipahead.plain.moves import END, moves_of
from skipahead.plain.programs import need_program

MAX_ROW = 3000


class PlainRun:
    """A run of a program with a server or a row, which waits for each answer."""

    def __init__(self, program, server):
        need_program(program)
        need_source(program.book, server)
        self._program = program
        self._server = server
        moves = moves_of(program)
        wire = Wire(choices_of(program.book, None), server, MAX_ITEMS)
        self._now = Course(moves, wire, [(moves.hop(-1, None), moves.initial)])

    @property
    def program(self):
        """The program."""
        return self._program

    @property
    def server(self):
        """The server, or the row."""
        return self._server

    @property
    def line(self):
        """A line with what was sent."""
        return line_with(self._program.book, self._now.wire.tape.copied())

    @property
    def work(self):
        """The work of the line."""
        return tuple(self._now.wire.tape.entries)

    @property
    def at(self):
        """The number of the line with the next item, or of the one that ended the run, or of the end."""
        return self._now.stops[-1][0]

    @property
    def last(self):
        """The last answer."""
        return self._now.last_said()

    @property
    def state(self):
        """Whether the run is going, paused or ended."""
        return self._now.standing()

    @property
    def result(self):
        """The result, or None as long as the run has not ended."""
        if self._now.standing() != "ended":
            return None
        return result_at(self._program.lines, self._now.stops[-1][0], self._now.last_said())

    @property
    def waits(self):
        """The number of items, as the run waits for each."""
        return len(self._now.wire.tape.taken)

    def held(self, name):
        """The origin of what a register holds."""
        if not isinstance(name, str) or name not in self._program.registers:
            raise UnknownName(name)
        return self._now.origin_in(name)

    def go(self, *, many=1):
        """Sends so many items, or fewer if the run ends or pauses sooner, and returns the state."""
        need_count(many)
        before = len(self._now.wire.tape.taken)
        try:
            self._now.go_on(many)
        except (InvalidRow, TooMany):
            self._now.take_back(len(self._now.wire.tape.taken) - before)
            raise
        return self._now.standing()

    def undo(self, *, many=1):
        """Takes back the last items and returns how many are left."""
        need_count(many)
        if many > len(self._now.wire.tape.taken):
            raise NothingToUndo(many)
        return self._now.take_back(many)

    def trial(self):
        """A block that gives the run, and at whose end the run is as it was before."""
        return Trial(self)

    def during(self, call):
        """What a function returns for the run, which then is as it was before."""
        with self.trial() as same:
            return call(same)

    def twin(self):
        """An independent run that has come as far."""
        run = PlainRun(self._program, self._server)
        run._now = self._now.copied()
        return run

    def __len__(self):
        return len(self._now.wire.tape.taken)

    def __eq__(self, other):
        if not isinstance(other, PlainRun):
            return False
        if len(self._now.wire.tape.taken) != len(other._now.wire.tape.taken):
            return False
        return self._program == other._program and self._server == other._server

    def __str__(self):
        return f"run at line {self._now.stops[-1][0]} behind {len(self._now.wire.tape.taken)} items"


def row_of(program, server, many):
    """The row of the first so many outcomes, or of all, that a program has with a server."""
    need_program(program)
    if not isinstance(server, Server) or server.book != program.book:
        raise InvalidServer("not a server with the book of the program")
    need_count(many)
    if many > MAX_ROW:
        raise TooMany(MAX_ROW)
    moves = moves_of(program)
    table = table_of(server)
    state = server.start
    line = moves.started()[0]
    row = []
    while line != END and len(row) < many:
        outcome, state = table[state][moves.calls[line][0]]
        row.append(outcome)
        keeps, _, (line, _) = moves.route(line, outcome)
        if keeps:
            state = table[state]["kept"]
    return tuple(row)


def behind(program, row):
    """The pair of the work and the thing behind it of a run with a row."""
    need_program(program)
    if not is_row(program.book, row):
        raise InvalidRow("not a tuple of outcomes of commands of the book")
    work, thing = worked(program, row)
    if len(row) > MAX_ROW:
        raise TooMany(MAX_ROW)
    return tuple(work), thing


def is_row_of(program, value):
    """Whether the value is a row with which a run comes to something."""
    need_program(program)
    try:
        behind(program, value)
    except (InvalidRow, TooMany):
        return False
    return True


def worked(program, row):
    """The list of the entries of a run with a row, as far as it goes without a further outcome; the thing behind it."""
    moves = moves_of(program)
    line, result = moves.started()
    held = list(moves.initial)
    entries = []
    for number, outcome in enumerate(row):
        if line == END:
            raise InvalidRow(f"the run ends behind {number} outcomes")
        command, slots, target = moves.calls[line]
        known = moves.routes[line]
        if outcome not in known and outcome not in program.book.outcomes(command):
            raise InvalidRow(f"not an outcome of the command {command} here: {outcome}")
        keeps, gone, (line, result) = known[outcome] if outcome in known else moves.route(line, outcome)
        entries.append((command, tuple([held[slot] for slot in slots]) if slots else (), outcome))
        if outcome != "failed" and target is not None:
            held[target] = number
        for slot in gone:
            held[slot] = None
        if keeps:
            entries.append(KEPT)
    if line == END:
        return entries, (END, result)
    return entries, moves.thing((line, held))
