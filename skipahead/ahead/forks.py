"""The fates of a list that clash, and the outcomes that would have to be ruled out so that none do."""

from skipahead.ahead.front import held_in
from skipahead.ahead.papers import view_from
from skipahead.base.items import MARK

# The lower half of the bits of a mask, which has 24 at most; and more than there can be.
LOW = 4095
NEVER = 99


class Forks:
    """The fates behind the forced list of a front.

    A mask tells in the bits of a number which pairs of a command and an outcome a fate has. The fates that are seen
    alike are a group. Which fates are left is told in bits, too, by the places of their masks in all groups together.
    """

    def __init__(self, front):
        choices = front.spots.choices
        self.pairs = [(command, outcome) for command in choices for outcome in choices[command]]
        self.groups, samples = views_behind(front, {pair: bit for bit, pair in enumerate(self.pairs)})
        self.against = [
            [other for other, further in enumerate(samples) if do_clash(front.spots, spot, further)] for spot in samples
        ]
        places = [(mask, number) for number, masks in enumerate(self.groups) for mask in masks]
        self.masks = [mask for mask, _ in places]
        self.everything = (1 << len(places)) - 1
        # The fates of each group, and those that have each pair.
        self.members = [bits_where([number == group for _, group in places]) for number in range(len(self.groups))]
        self.having = [bits_where([mask >> bit & 1 == 1 for mask, _ in places]) for bit in range(len(self.pairs))]
        # The pairs that most fates have come first; so fewer ways that lead nowhere are looked at.
        counts = [len([mask for mask in self.masks if mask >> bit & 1]) for bit in range(len(self.pairs))]
        self.ranked = [bit for _, bit in sorted([(-count, bit) for bit, count in enumerate(counts)])]
        # For each pair the answers of its command.
        self.same_command = [
            bits_where([pair[0] == command and pair[1] != "failed" for pair in self.pairs]) for command, _ in self.pairs
        ]
        self.weights = weights_of(12)

    def are_saving(self, outs):
        """Whether no fates clash that have no pair of outs."""
        left = self.everything
        for bit, pair in enumerate(self.pairs):
            if pair in outs:
                left = left & ~self.having[bit]
        return self._clash_in(left) is None

    def least_savings(self, most):
        """The least outs, or some more of them than so many."""
        found = []
        self._look_for(0, 0, self.groups, {}, found, most)
        return [tuple([self.pairs[bit] for bit in ones(mask)]) for mask in found]

    def _look_for(self, outs, spared, groups, needs, found, most):
        """Notes the least outs that have these pairs, and none of those that are spared.

        The groups tell the masks of the fates that are left, without what is spared; and needs, for each pair of these
        outs, which fates would be left without it, and the pairs of two of these that clash.
        """
        clash = self._small_clash(groups)
        if clash is None:
            found.append(outs)
            return
        left = self.everything
        for bit in ones(outs):
            left = left & ~self.having[bit]
        # One pair of the clash is needed at least; what comes behind a pair does without those ahead of it.
        for bit in [one for one in self.ranked if clash >> one & 1]:
            more = outs | 1 << bit
            answers = self.same_command[bit] & ~more
            if len(found) <= most and answers:
                further = self._needs_with(needs, bit)
                if len(further) == len(needs):
                    further[bit] = (left, clash)
                    # The only answer that is left of a command has to stay.
                    kept = spared | answers if answers & (answers - 1) == 0 else spared
                    self._look_for(more, kept, masks_left(groups, bit, kept), further, found, most)
            spared = spared | 1 << bit

    def _needs_with(self, needs, bit):
        """The same of those outs that are still needed if there is one more."""
        further = {}
        for out, (left, clash) in needs.items():
            left = left & ~self.having[bit]
            if clash >> bit & 1:
                clash = self._clash_in(left)
            if clash is None:
                break
            further[out] = (left, clash)
        return further

    def _clash_in(self, left):
        """The pairs of two of these fates that clash, or None if none do."""
        for number, group in enumerate(self.members):
            if left & group:
                for other in self.against[number]:
                    if left & self.members[other]:
                        return self._first_mask(left & group) | self._first_mask(left & self.members[other])
        return None

    def _first_mask(self, some):
        return self.masks[(some & -some).bit_length() - 1]

    def _small_clash(self, groups):
        """Few pairs that two fates have which clash, or None if none do."""
        best = None
        for number, group in enumerate(groups):
            for other in self.against[number] if group else []:
                if groups[other]:
                    mask = self._lightest(group, 0)
                    clash = mask | self._lightest(groups[other], mask)
                    if best is None or self._weight(clash) < self._weight(best):
                        best = clash
        return best

    def _lightest(self, masks, mask):
        """The one of these masks that has the fewest pairs together with another mask."""
        weights = self.weights
        best = masks[0]
        least = NEVER
        for told in masks:
            both = told | mask
            weight = weights[both & LOW] + weights[both >> 12]
            if weight < least:
                best = told
                least = weight
        return best

    def _weight(self, mask):
        """How many pairs a mask has."""
        return self.weights[mask & LOW] + self.weights[mask >> 12]


def masks_left(groups, bit, spared):
    """The masks in each group that do not have a bit, without those that are spared, each once."""
    return [list({mask & ~spared: True for mask in group if not mask >> bit & 1}) for group in groups]


def weights_of(many):
    """For each number of so many bits how many of them it has."""
    weights = [0]
    for _ in range(many):
        weights = weights + [weight + 1 for weight in weights]
    return weights


def views_behind(front, bits):
    """What is seen behind the fates of a list: for each view the masks of its fates, and a spot that shows it."""
    spots = front.spots
    layer = {spots.begin: {0: True}}
    for index, item in enumerate(front.listed):
        layer = masks_with(spots, layer, bits, item, index)
    views = {}
    samples = {}
    for spot, masks in layer.items():
        view = view_from(spots, spot)
        views.setdefault(view, {}).update(masks)
        samples[view] = spot
    return [list(views[view]) for view in views], [samples[view] for view in views]


def masks_with(spots, layer, bits, item, index):
    """The masks of the fates that lead to each spot behind a further item."""
    found = {}
    for spot, masks in layer.items():
        for answer, behind in spots.behind(spot, item, index):
            more = 0 if item == MARK or spot[1] == "broken" else 1 << bits[item[1], answer]
            found.setdefault(behind, {}).update({mask | more: True for mask in masks})
    # What is known of items that no register holds does not matter.
    held = held_in(found)
    kept = {}
    for (place, deal, done), masks in found.items():
        spot = (place, deal, tuple([one for one in done if one in held]))
        kept.setdefault(spot, {}).update(masks)
    return kept


def do_clash(spots, spot, other):
    """Whether at these spots together no item can be forced and the runs do not end alike, whatever the others are.

    Two spots in broken deals may disagree, and yet an item that is the thing at some other spot is right at both.
    """
    if spot[1] == "broken" and other[1] == "broken":
        return False
    return not spots.agree(spot, other)


def ones(number):
    """The places of the bits that a number has, ascending."""
    return [bit for bit in range(number.bit_length()) if number >> bit & 1]


def bits_where(facts):
    """The number that has the bits at whose places this holds."""
    number = 0
    for place, holds in enumerate(facts):
        if holds:
            number = number | 1 << place
    return number
