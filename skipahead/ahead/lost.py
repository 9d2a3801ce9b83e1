"""Lost lines: what may have been kept when a line is lost, and runs that keep few deals in doubt."""

from skipahead.ahead.forward import Forward, are_as_far, come_as_far
from skipahead.ahead.lists import need_front, need_list
from skipahead.ahead.plans import doubtful
from skipahead.base.counts import MAX_WINDOW, is_count
from skipahead.base.items import MARK
from skipahead.errors import InvalidNumber
from skipahead.line.facts import choices_of, need_facts
from skipahead.line.sources import need_source
from skipahead.plain.programs import need_program


def losses(program, stand, items, *, facts=None):
    """The ascending tuple of all losses of a right list."""
    need_right(program, stand, items, facts)
    return all_losses(choices_of(program.book, facts), deal_at(stand), items)


def in_doubt(program, stand, items, *, facts=None):
    """The number of deals that are in doubt with a right list."""
    need_right(program, stand, items, facts)
    return len(doubtful(deal_at(stand), items))


class Careful(Forward):
    """A forward run that keeps at most so many deals in doubt."""

    def __init__(self, program, server, *, doubts, window=16, facts=None):
        need_program(program)
        need_source(program.book, server)
        if not is_count(doubts) or not 1 <= doubts <= MAX_WINDOW:
            raise InvalidNumber(doubts)
        self._doubts = doubts
        self._begin(program, server, window, facts, doubts)

    @property
    def doubts(self):
        """How many deals can be in doubt."""
        return self._doubts

    def twin(self):
        """An independent run that has come as far."""
        run = Careful(self._program, (), doubts=self._doubts, window=self._window, facts=self._facts)
        return come_as_far(run, self)

    def __eq__(self, other):
        if not isinstance(other, Careful):
            return False
        return self._doubts == other._doubts and are_as_far(self, other)

    def __str__(self):
        return f"careful run behind {len(self._now.legs) - 1} waits, {self._now.standing()}"


def all_losses(choices, deal, items):
    """The ascending tuple of all losses of a list from this deal on, with the outcomes that each command can have."""
    # The deal and the marks of kept deals so far, behind each fate.
    now = {(deal, ()): True}
    found = {(): True}
    for index, item in enumerate(items):
        now = {pair: True for mood, kept in now for pair in losses_with(choices, mood, kept, item, index)}
        found.update({kept: True for _, kept in now})
    return tuple(sorted(found))


def losses_with(choices, deal, kept, item, index):
    """The pairs of a deal and marks of kept deals behind a further item."""
    if item == MARK:
        return [("fresh", kept + (index,) if deal == "open" else kept)]
    if deal == "broken":
        return [(deal, kept)]
    return [("broken" if outcome == "failed" else "open", kept) for outcome in choices[item[1]]]


def deal_at(stand):
    """The deal of a stand; that of an end is fresh."""
    return stand[2] if len(stand) == 3 else "fresh"


def need_right(program, stand, items, facts):
    """Refuses what does not tell a program, a stand, a right list for it, and facts."""
    need_list(program, stand, items)
    need_facts(program.book, facts)
    need_front(program, stand, items, facts)
