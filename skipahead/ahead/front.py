"""The front: all spots behind a list and its fates."""

from skipahead.base.items import MARK
from skipahead.plain.moves import END


class Front:
    """A list for a stand as it grows, with the spots behind it, the least fate for each, and how many fates it has."""

    def __init__(self, spots, uses):
        self.spots = spots
        # The index of the last item of the list to come that has an item as an argument.
        self.uses = uses
        self.listed = []
        self.least = {spots.begin: ()}
        # How many fates there are whose deal is broken, and how many others.
        self.fallen = 1 if spots.begin[1] == "broken" else 0
        self.upright = 1 - self.fallen

    def fits_all(self, item):
        """Whether an item is right behind the list."""
        return all([self.spots.fits(spot, item) for spot in self.least])

    def next_forced(self):
        """The item that is forced behind the list, or None."""
        return self.spots.forced(list(self.least))

    def count_with(self, item):
        """Counts the fates with a further item, and returns how many there are."""
        if item == MARK:
            self.upright, self.fallen = self.upright + self.fallen, 0
        else:
            outcomes = self.spots.choices[item[1]]
            fails = outcomes.count("failed")
            self.fallen = self.fallen + self.upright * fails
            self.upright = self.upright * (len(outcomes) - fails)
        return self.upright + self.fallen

    def move_on(self, item):
        """Goes on behind a further item, which is right."""
        index = len(self.listed)
        found = {}
        for spot, fate in self.least.items():
            for answer, behind in self.spots.behind(spot, item, index):
                keep_least(found, behind, fate + (answer,))
        self.listed.append(item)
        self.least = self._forgetting(found)

    def _forgetting(self, found):
        """The same spots without what is known of items that no register holds and that are no arguments later."""
        held = {value: True for place, _, _ in found if place[0] != END for value in place[1]}
        many = len(self.listed)
        kept = {}
        for (place, deal, done), fate in found.items():
            matter = tuple([index for index in done if index in held or self.uses.get(index, 0) >= many])
            keep_least(kept, (place, deal, matter), fate)
        return kept


def keep_least(least, spot, fate):
    """Notes a fate for a spot, if it is the least one so far."""
    if spot not in least or fate < least[spot]:
        least[spot] = fate


def last_uses(items):
    """The index of the last item that has an item as an argument, for each item that is one."""
    return {
        argument: index for index, item in enumerate(items) if item != MARK
        for argument in item[2] if isinstance(argument, int)
    }


def all_fates(choices, deal, items):
    """The list of all fates of a list of items in a deal, ascending, with the outcomes that each command can have."""
    found = [((), deal)]
    for item in items:
        found = [pair for fate, now in found for pair in longer_fates(choices, fate, now, item)]
    return [fate for fate, _ in found]


def longer_fates(choices, fate, deal, item):
    """The pairs of each fate with a further item, ascending, and the deal behind it."""
    if item == MARK:
        return [(fate + ("undone" if deal == "broken" else "kept",), "fresh")]
    if deal == "broken":
        return [(fate + ("skipped",), deal)]
    return [(fate + (outcome,), "broken" if outcome == "failed" else "open") for outcome in choices[item[1]]]
