"""What forward runs send at the stands of a program."""

from skipahead.ahead.lists import front_at
from skipahead.ahead.papers import FULL, paper_behind
from skipahead.ahead.spots import stand_at
from skipahead.base.items import MARK
from skipahead.line.facts import left_by
from skipahead.plain.moves import END
from skipahead.plain.places import numbers_of

# For so many windows, facts and bounds a program keeps what was worked out.
MAX_KEPT = 32


class Plans:
    """What is sent at each stand of a program for a window, facts and a bound on doubts; each is worked out once."""

    def __init__(self, code, window, facts, bound):
        self.code = code
        self.most = window
        self.restriction = facts
        self.bound = bound
        self.known = {}

    def plan_at(self, stand):
        """What is sent at a stand, and the paper about it."""
        if stand not in self.known:
            front = front_at(self.code, stand, self.restriction)
            if self.bound is None:
                told = paper_behind(front, front.grow(self.most))
            else:
                told = self._grown_with_care(front)
            self.known[stand] = Plan(front, told)
        return self.known[stand]

    def _grown_with_care(self, front):
        """The paper about a front that grows up to the first mark with which too many deals would be in doubt."""
        item = front.next_forced()
        while item is not None and len(front.listed) < self.most:
            if item == MARK and len(doubtful(front.spots.begin[1], front.listed + [MARK])) > self.bound:
                return ("doubt",)
            front.take_in(item)
            item = front.next_forced()
        return FULL if item is not None else paper_behind(front, None)


class Plan:
    """The list that is sent at a stand, and the paper about it."""

    def __init__(self, front, told):
        self.spots = front.spots
        self.listed = tuple(front.listed)
        self.told = told
        # What the arguments of each item give: a parameter, the index of an item, or a number below 0 for a class.
        self.told_arguments = [() if item == MARK else [self._given(one) for one in item[2]] for item in self.listed]
        self._turns = {}

    def turn(self, answers):
        """The stand behind the list and these answers, and what its classes stand for; None if they are no fate."""
        if answers not in self._turns:
            spot = self.spots.walked(self.listed, answers)
            if spot is None:
                return None
            values = [] if spot[0][0] == END else list(numbers_of(spot[0][1]))
            self._turns[answers] = (stand_at(spot), values)
        return self._turns[answers]

    def _given(self, argument):
        return self.spots.given[argument] if isinstance(argument, str) else argument


def plans_of(program, window, facts, bound):
    """The plans of a program, which keeps them."""
    key = (window, left_by(program.book, facts), bound)
    if key not in program._plans:
        if len(program._plans) >= MAX_KEPT:
            program._plans = {}
        program._plans[key] = Plans(program, window, facts, bound)
    return program._plans[key]


def doubtful(deal, items):
    """The indexes of the marks in a list that can keep a deal in which something was tried, from this deal on."""
    found = []
    begun = deal == "open"
    for index, item in enumerate(items):
        if item != MARK:
            begun = begun or deal != "broken"
        else:
            if begun:
                found.append(index)
            begun = False
            deal = "fresh"
    return found
