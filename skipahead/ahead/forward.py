"""Forward runs, which send ahead as far as a program means it."""

from skipahead.ahead.journey import Journey
from skipahead.ahead.plans import plans_of
from skipahead.base.counts import need_count, need_window
from skipahead.errors import InvalidOperation, InvalidRow, NothingToUndo, TooMany
from skipahead.line.facts import choices_of, need_facts
from skipahead.line.line import MAX_ITEMS, line_with
from skipahead.line.servers import Server
from skipahead.line.sources import need_source
from skipahead.line.trials import Trial
from skipahead.line.wire import Wire
from skipahead.plain.programs import need_program


class Forward:
    """A forward run of a program with a server or a row, for a window and facts."""

    def __init__(self, program, server, *, window=16, facts=None):
        need_program(program)
        need_source(program.book, server)
        self._begin(program, server, window, facts, None)

    def _begin(self, program, server, window, facts, bound):
        """Checks the window and the facts, and sends the first list."""
        need_window(window)
        need_facts(program.book, facts)
        if isinstance(server, Server) and facts is not None and not facts.obeyed_by(server):
            raise InvalidOperation("the server does not obey the facts")
        self._program = program
        self._server = server
        self._window = window
        self._facts = facts
        wire = Wire(choices_of(program.book, facts), server, MAX_ITEMS)
        self._now = Journey(plans_of(program, window, facts, bound), wire)
        self._now.set_out()

    @property
    def program(self):
        """The program."""
        return self._program

    @property
    def server(self):
        """The server, or the row."""
        return self._server

    @property
    def window(self):
        """The window."""
        return self._window

    @property
    def facts(self):
        """The facts, or None."""
        return self._facts

    @property
    def line(self):
        """A line with what the server has taken."""
        return line_with(self._program.book, self._now.wire.tape.copied())

    @property
    def work(self):
        """The work of the line."""
        return tuple(self._now.wire.tape.entries)

    @property
    def stand(self):
        """The stand at which the last list was sent."""
        return self._now.legs[-1].spot

    @property
    def pending(self):
        """The forced list of the stand."""
        return self._now.legs[-1].plan.listed

    @property
    def paper(self):
        """The wait paper of the stand."""
        return self._now.legs[-1].plan.told

    @property
    def state(self):
        """Whether the run is waiting, paused or ended."""
        return self._now.standing()

    @property
    def result(self):
        """The result, or None as long as the run has not ended."""
        return self._now.legs[-1].plan.told[1] if self._now.standing() == "ended" else None

    @property
    def waits(self):
        """The number of waits."""
        return len(self._now.legs) - 1

    @property
    def progress(self):
        """How many entries the work had behind 0, 1, .. waits."""
        return tuple([leg.depth for leg in self._now.legs])

    def go(self, *, many=1):
        """Waits so many times, or fewer if the run ends or pauses sooner, and returns the state."""
        need_count(many)
        legs = len(self._now.legs)
        items = len(self._now.wire.tape.taken)
        try:
            self._now.go_on(many)
        except (InvalidRow, TooMany):
            self._now.return_to(legs, items)
            raise
        return self._now.standing()

    def undo(self, *, many=1):
        """Takes back the last waits, with all that came behind them, and returns how many are left."""
        need_count(many)
        if many > len(self):
            raise NothingToUndo(many)
        return self._now.take_back(many)

    def trial(self):
        """A block that gives the run, and at whose end the run is as it was before."""
        return Trial(self)

    def during(self, call):
        """What a function returns for the run, which then is as it was before."""
        with self.trial() as same:
            return call(same)

    def twin(self):
        """An independent run that has come as far."""
        return come_as_far(Forward(self._program, (), window=self._window, facts=self._facts), self)

    def __len__(self):
        return len(self._now.legs[1:])

    def __eq__(self, other):
        if not isinstance(other, Forward):
            return False
        return self._now.plans.bound == other._now.plans.bound and are_as_far(self, other)

    def __str__(self):
        return f"forward run behind {len(self._now.legs) - 1} waits, {self._now.standing()}"


def come_as_far(run, other):
    """Gives a new run all that another one has, so that both go on independently, and returns it."""
    run._program = other._program
    run._server = other._server
    run._window = other._window
    run._facts = other._facts
    run._now = other._now.copied()
    return run


def are_as_far(run, other):
    """Whether two forward runs of equal programs, with equal servers, windows and facts, have waited as often."""
    if len(run._now.legs) != len(other._now.legs) or run._window != other._window:
        return False
    return run._program == other._program and run._server == other._server and run._facts == other._facts
