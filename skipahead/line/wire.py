"""A line with what decides the outcomes on it."""

from skipahead.base.items import MARK
from skipahead.errors import TooMany
from skipahead.line.sources import first_place, is_over, outcome_at, place_behind_kept
from skipahead.line.tape import Tape


class Wire:
    """What a server, or a row, has taken from a line: at most so many items, or any number if most is None."""

    def __init__(self, choices, server, most):
        self.choices = choices
        self.source = server
        self.most = most
        self.tape = Tape()
        # The place of the server, or in the row, at the beginning and behind each item.
        self.places = [first_place(server)]

    def copied(self):
        """An independent wire with the same items."""
        wire = Wire(self.choices, self.source, self.most)
        wire.tape = self.tape.copied()
        wire.places = list(self.places)
        return wire

    def lacks(self, item):
        """Whether an item would be tried now, and the row has no outcome for it."""
        return self.tape.tries(item) and is_over(self.source, self.places[-1])

    def pass_on(self, item):
        """Lets the server take an item, and returns the answer."""
        place = self.places[-1]
        outcome = None
        if self.tape.tries(item):
            outcome, place = outcome_at(self.choices, self.source, place, item[1])
        elif item == MARK and self.tape.levels[-1][0] == "open":
            place = place_behind_kept(self.source, place)
        if self.most is not None and len(self.tape.taken) >= self.most:
            raise TooMany(self.most)
        self.places.append(place)
        return self.tape.take(item, outcome)

    def take_back(self, many):
        """Takes back the last items and returns how many are left."""
        left = self.tape.take_back(many)
        del self.places[left + 1:]
        return left
