"""The client's side of a forward run."""

from skipahead.ahead.journey import on_line, sources_behind
from skipahead.ahead.lost import all_losses, deal_at
from skipahead.ahead.plans import plans_of
from skipahead.base.counts import is_count, need_count, need_window
from skipahead.base.items import MARK
from skipahead.errors import InvalidNumber, InvalidOperation, NothingToUndo
from skipahead.line.facts import choices_of, need_facts
from skipahead.plain.moves import moves_of
from skipahead.plain.programs import need_program


class Client:
    """Tells what a forward run of a program sends, and is told the answers."""

    def __init__(self, program, *, window=16, facts=None):
        need_program(program)
        need_window(window)
        need_facts(program.book, facts)
        self._program = program
        self._facts = facts
        self._window = window
        stand = moves_of(program).begun()
        # What was sent at the beginning and behind each tuple of answers that was told.
        self._pages = [Page(stand, {}, 0, plan_for(self, stand, window))]
        self._log = []
        # The answers that were undone, with the pages behind them, the last one at the end; how many stay told.
        self._undone = []
        self._fixed = 0

    @property
    def program(self):
        """The program."""
        return self._program

    @property
    def window(self):
        """The window."""
        return self._window

    @window.setter
    def window(self, value):
        change_window(self, value)

    @property
    def facts(self):
        """The facts, or None."""
        return self._facts

    @property
    def outbox(self):
        """The list that was sent last."""
        return self._pages[-1].plan.listed

    @property
    def stand(self):
        """The stand at which it was sent."""
        return self._pages[-1].spot

    @property
    def state(self):
        """Whether the run is waiting or ended."""
        return "ended" if self._pages[-1].plan.told[0] == "ends" else "waiting"

    @property
    def result(self):
        """The result, or None as long as the run has not ended."""
        told = self._pages[-1].plan.told
        return told[1] if told[0] == "ends" else None

    @property
    def log(self):
        """The answers that were told, tuple by tuple."""
        return tuple(self._log)

    @property
    def sequence(self):
        """All items that were sent, as on a line."""
        return tuple([item for page in self._pages for item in page.items_sent()])

    def tell(self, answers):
        """Takes the answers to the outbox, and returns the new outbox."""
        page = self._pages[-1]
        if page.plan.told[0] == "ends":
            raise InvalidOperation("the run has ended")
        if not isinstance(answers, tuple) or not all([isinstance(answer, str) for answer in answers]):
            raise InvalidOperation("not a tuple of answers")
        turn = page.plan.turn(answers)
        if turn is None:
            raise InvalidOperation("not answers that a server can give to the outbox")
        stand, values = turn
        sources = sources_behind(values, page.sources, page.begin)
        begin = page.begin + len(page.plan.listed)
        self._pages.append(Page(stand, sources, begin, plan_for(self, stand, self._window)))
        self._log.append(answers)
        self._undone = []
        return self.outbox

    def widen(self, window):
        """Changes the window for the outbox and for later ones."""
        change_window(self, window)

    def lost(self):
        """The losses of the outbox."""
        page = self._pages[-1]
        return all_losses(choices_of(self._program.book, self._facts), deal_at(page.spot), page.plan.listed)

    def undo(self, *, many=1):
        """Takes back the last tuples of answers, and returns how many are left."""
        need_count(many)
        if many > len(self._log) - self._fixed:
            raise NothingToUndo(many)
        for _ in range(many):
            self._undone.append((self._log.pop(), self._pages.pop()))
        return len(self._log)

    def redo(self, *, many=1):
        """Tells the last tuples of answers that were undone again, and returns how many were told then."""
        need_count(many)
        if many > len(self._undone):
            raise NothingToUndo(many)
        for _ in range(many):
            answers, page = self._undone.pop()
            self._log.append(answers)
            self._pages.append(page)
        return len(self._log)

    def __iadd__(self, answers):
        self.tell(answers)
        return self

    def __getitem__(self, index):
        if not is_count(index) or index >= len(self._log):
            raise InvalidNumber(index)
        return self._log[index]

    def __iter__(self):
        return iter(self._log)

    def __len__(self):
        return len(self._log)

    def __eq__(self, other):
        if not isinstance(other, Client):
            return False
        if self._window != other._window or self._log != other._log:
            return False
        return self._program == other._program and self._facts == other._facts

    def __str__(self):
        return f"client behind {len(self._log)} waits, {self.state}"


class Page:
    """What a client has sent at a stand."""

    def __init__(self, spot, sources, begin, plan):
        self.spot = spot
        # The index on the line of the item whose value is that of a class at the stand; the index of the first item.
        self.sources = sources
        self.begin = begin
        self.plan = plan

    def items_sent(self):
        """The items of the list, as on a line."""
        return [
            item if item == MARK else on_line(item, told, self.sources, self.begin)
            for item, told in zip(self.plan.listed, self.plan.told_arguments)
        ]


def plan_for(client, stand, window):
    """What a client sends at a stand with a window."""
    return plans_of(client._program, window, client._facts, None).plan_at(stand)


def change_window(client, window):
    """Gives a client another window, not a lesser one, and makes its outbox anew."""
    need_window(window)
    if window < client._window:
        raise InvalidOperation(f"the window is {client._window} already")
    page = client._pages[-1]
    client._pages[-1] = Page(page.spot, page.sources, page.begin, plan_for(client, page.spot, window))
    client._window = window
    client._undone = []
    client._fixed = len(client._log)
