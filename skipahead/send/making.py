"""Senders that are made, and what shows whether a sender waits more often than it has to."""

from skipahead.ahead.windows import need_asked, reaches
from skipahead.base.search import explored
from skipahead.errors import TooMany, Unlike
from skipahead.send.judge import need_like, unlike_row
from skipahead.send.pace import Pace
from skipahead.send.scribe import Scribe
from skipahead.send.senders import MAX_LINES, Sender


def made_sender(program, *, window=16, facts=None):
    """A sender that does the same as a program and never waits more often than it has to."""
    need_asked(program, window, facts)
    found = reaches(program, window, facts)
    if cost_of(found) > MAX_LINES:
        raise TooMany(MAX_LINES)
    return Sender.of(program.book, Scribe(program, found).written(), parameters=program.parameters)


def making_cost(program, *, window=16, facts=None):
    """How many lines a made sender has at most."""
    need_asked(program, window, facts)
    return cost_of(reaches(program, window, facts))


def slower_row(program, sender, *, window=16, facts=None):
    """The least of the shortest rows along which a sender is slower than a forward run, or None."""
    need_like(program, sender, window, facts)
    row = unlike_row(program, sender, window, facts)
    if row is not None:
        raise Unlike(row)
    pace = Pace(program, sender, reaches(program, window, facts))
    return explored(pace, pace.first(), None)[1]


def cost_of(found):
    """The cost of a program whose forward runs reach these stands and send this there."""
    total = 0
    for stand in found:
        front = found[stand].front
        total = total + 1 + len(front.listed)
        if found[stand].waits_here:
            # Each fate of a first part of the list is one tuple with which fates of the list begin.
            total = total + 2 * sum(front.counts[1:]) + 4 * front.counts[-1]
    return total
