"""The front: all spots behind a list and its fates."""

from skipahead.base.items import MARK
from skipahead.errors import TooMany
from skipahead.plain.moves import END


class Front:
    """A list for a stand as it grows, with the spots behind it, the least fate for each, and how many fates it has."""

    def __init__(self, spots, uses, most):
        self.spots = spots
        # The index of the last item of the list to come that has an item as an argument.
        self.uses = uses
        self.most = most
        self.listed = []
        self.least = {spots.begin: ()}
        # How many fates there are whose deal is broken, and how many others; how many there were ahead of each item.
        self.fallen = 1 if spots.begin[1] == "broken" else 0
        self.upright = 1 - self.fallen
        self.counts = [1]

    def fits_all(self, item):
        """Whether an item is right behind the list."""
        return all([self.spots.fits(spot, item) for spot in self.least])

    def next_forced(self):
        """The item that is forced behind the list, or None."""
        return self.spots.forced(list(self.least))

    def grow(self, window):
        """Takes in what is forced, up to so many items; returns the item that is forced then, or None."""
        item = self.next_forced()
        while item is not None and len(self.listed) < window:
            self.take_in(item)
            item = self.next_forced()
        return item

    def take_in(self, item):
        """Goes on behind a further right item, if there are not too many fates then."""
        upright, fallen = self._numbers_with(item)
        if upright + fallen > self.most:
            raise TooMany(self.most)
        self.upright = upright
        self.fallen = fallen
        self.counts.append(upright + fallen)
        index = len(self.listed)
        found = {}
        for spot, fate in self.least.items():
            for answer, behind in self.spots.behind(spot, item, index):
                keep_least(found, behind, fate + (answer,))
        self.listed.append(item)
        self.least = self._forgetting(found)

    def _numbers_with(self, item):
        """How many fates there are with a further item whose deal is not broken, and how many others."""
        if item == MARK:
            return self.upright + self.fallen, 0
        outcomes = self.spots.choices[item[1]]
        fails = outcomes.count("failed")
        return self.upright * (len(outcomes) - fails), self.fallen + self.upright * fails

    def _forgetting(self, found):
        """The same spots without what is known of items that no register holds and that are no arguments later."""
        held = held_in(found)
        many = len(self.listed)
        kept = {}
        for (place, deal, done), fate in found.items():
            matter = tuple([index for index in done if index in held or self.uses.get(index, 0) >= many])
            keep_least(kept, (place, deal, matter), fate)
        return kept


def held_in(spots):
    """What registers hold at some of these spots, as the keys of a dict."""
    return {value: True for place, _, _ in spots if place[0] != END for value in place[1]}


def keep_least(least, spot, fate):
    """Notes a fate for a spot, if it is the least one so far."""
    if spot not in least or fate < least[spot]:
        least[spot] = fate


def last_uses(items):
    """The index of the last item that has an item as an argument, for each item that is one."""
    return {
        argument: index for index, item in enumerate(items) if item != MARK
        for argument in item[2] if isinstance(argument, int)
    }


def all_fates(choices, deal, items):
    """The list of all fates of a list of items in a deal, ascending, with the outcomes that each command can have."""
    found = [((), deal)]
    for item in items:
        found = [pair for fate, now in found for pair in longer_fates(choices, fate, now, item)]
    return [fate for fate, _ in found]


def longer_fates(choices, fate, deal, item):
    """The pairs of each fate with a further item, ascending, and the deal behind it."""
    if item == MARK:
        return [(fate + ("undone" if deal == "broken" else "kept",), "fresh")]
    if deal == "broken":
        return [(fate + ("skipped",), deal)]
    return [(fate + (outcome,), "broken" if outcome == "failed" else "open") for outcome in choices[item[1]]]
