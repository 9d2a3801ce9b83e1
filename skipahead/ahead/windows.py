"""Windows: the stands that forward runs reach, and how great a window is of use."""

from heapq import heappop, heappush
from skipahead.ahead.front import keep_least
from skipahead.ahead.lists import front_at
from skipahead.ahead.papers import needs_wait_behind
from skipahead.ahead.spots import stand_at
from skipahead.base.counts import MAX_WINDOW, need_window
from skipahead.base.items import MARK
from skipahead.errors import TooMany
from skipahead.line.facts import left_by, need_facts
from skipahead.plain.moves import moves_of
from skipahead.plain.programs import need_program

MAX_STANDS = 3000
# For so many windows and facts a program keeps what was worked out.
MAX_KEPT = 4


def reached_stands(program, *, window=16, facts=None):
    """The tuple of the stands that forward runs reach, ascending by their texts."""
    need_asked(program, window, facts)
    return tuple(sorted(reaches(program, window, facts), key=lambda stand: repr(stand)))


def full_row(program, *, window=16, facts=None):
    """The least of the shortest rows with which a forward run comes to a full list, or None."""
    need_asked(program, window, facts)
    found = reaches(program, window, facts)
    if not any([found[stand].is_full() for stand in found]):
        return None
    # Each entry of the queue is a row with its length, and the number of the stand to which it leads.
    stands = [moves_of(program).begun()]
    queue = [(0, (), 0)]
    passed = {}
    row = None
    while row is None:
        _, told, number = heappop(queue)
        stand = stands[number]
        if found[stand].is_full():
            row = told
        elif stand not in passed and found[stand].waits_here:
            passed[stand] = True
            rows = found[stand].rows()
            for behind in rows:
                further = told + rows[behind][1]
                heappush(queue, (len(further), further, len(stands)))
                stands.append(behind)
    return row


def least_window(program, *, facts=None):
    """The least window with which no list is full, or None if there is none."""
    need_program(program)
    need_facts(program.book, facts)
    known = {}
    for window in range(1, MAX_WINDOW + 1):
        found = reached_with(program, window, facts, known)
        if not any([found[stand].is_full() for stand in found]):
            return window
    return None


class Reach:
    """What forward runs send at a stand, and what they come to behind it; the window can only become greater."""

    def __init__(self, program, stand, facts):
        self.front = front_at(program, stand, facts)
        # The item that is forced behind the list; at first it is not known that there is none.
        self.further = MARK
        self.waits_here = False
        self.stands_behind = []

    def widen_to(self, window):
        """Lets the list have so many items."""
        if self.further is not None:
            self.further = self.front.grow(window)
            self.waits_here = needs_wait_behind(self.front, self.further)
            told = {stand_at(spot): True for spot in self.front.least} if self.waits_here else {}
            self.stands_behind = list(told)

    def is_full(self):
        """Whether a further item is forced behind the list."""
        return self.further is not None

    def rows(self):
        """For each stand behind the list the least of the shortest rows that lead to it, with its length."""
        spots = self.front.spots
        found = {spots.begin[:2]: (0, ())}
        for index, item in enumerate(self.front.listed):
            found = rows_with(spots, found, item, index)
        stands = {}
        for (place, deal), told in found.items():
            keep_least(stands, stand_at((place, deal, ())), told)
        return stands


def rows_with(spots, rows, item, index):
    """For each place and deal behind a further item the least of the shortest rows that lead to it, with its length."""
    longer = {}
    for (place, deal), (many, row) in rows.items():
        for answer, (further, mood, _) in spots.behind((place, deal, ()), item, index):
            told = (many, row) if item == MARK or deal == "broken" else (many + 1, row + (answer,))
            keep_least(longer, (further, mood), told)
    return longer


def reaches(program, window, facts):
    """A dict of the stands that forward runs reach, to what they send there; the first stand comes first.

    The program keeps it, so it is not to be changed.
    """
    key = (window, left_by(program.book, facts))
    if key not in program._reaches:
        found = reached_with(program, window, facts, {})
        if len(program._reaches) >= MAX_KEPT:
            program._reaches = {}
        program._reaches[key] = found
    return program._reaches[key]


def reached_with(program, window, facts, known):
    """The same, worked out anew; known keeps what was worked out for lesser windows."""
    found = {}
    ahead = [moves_of(program).begun()]
    while ahead:
        stand = ahead.pop()
        if stand not in found:
            if len(found) == MAX_STANDS:
                raise TooMany(MAX_STANDS)
            if stand not in known:
                known[stand] = Reach(program, stand, facts)
            known[stand].widen_to(window)
            found[stand] = known[stand]
            ahead.extend(known[stand].stands_behind)
    return found


def need_asked(program, window, facts):
    """Refuses what does not tell a program, a window and facts."""
    need_program(program)
    need_window(window)
    need_facts(program.book, facts)
