"""The fates of a list that clash, and the outcomes that would have to be ruled out so that none do."""

from skipahead.ahead.front import held_in
from skipahead.ahead.papers import view_from
from skipahead.base.items import MARK


class Forks:
    """The fates behind the forced list of a front.

    A mask tells in the bits of a number which pairs of a command and an outcome a fate has. All masks stand in one
    list, those with fewer pairs first. Which fates are left is told in bits, too, by the places of masks in the list.
    """

    def __init__(self, front):
        choices = front.spots.choices
        self.pairs = [(command, outcome) for command in choices for outcome in choices[command]]
        bits = {pair: bit for bit, pair in enumerate(self.pairs)}
        views, samples = views_behind(front, bits)
        ranked = sorted([(len(ones(mask)), mask, number) for number, masks in enumerate(views) for mask in masks])
        self.masks = [mask for _, mask, _ in ranked]
        self.everything = (1 << len(ranked)) - 1
        # The fates that are seen alike, the ones with a pair, and with which others those seen alike clash.
        self.groups = [bits_where([number == view for _, _, view in ranked]) for number in range(len(views))]
        self.having = [bits_where([mask >> bit & 1 == 1 for mask in self.masks]) for bit in range(len(self.pairs))]
        self.against = [
            [other for other, further in enumerate(samples) if do_clash(front.spots, spot, further)] for spot in samples
        ]
        # For each pair the answers of its command.
        self.same_command = [
            bits_where([pair[0] == command and pair[1] != "failed" for pair in self.pairs]) for command, _ in self.pairs
        ]

    def are_saving(self, outs):
        """Whether no fates clash that have no pair of outs."""
        left = self.everything
        for bit, pair in enumerate(self.pairs):
            if pair in outs:
                left = left & ~self.having[bit]
        return self._clash(left) is None

    def least_savings(self, most):
        """The least outs, or some more of them than so many."""
        found = []
        self._look_for(0, self.everything, 0, found, most)
        return [tuple([self.pairs[bit] for bit in ones(mask)]) for mask in found]

    def _look_for(self, outs, left, barred, found, most):
        """Notes the least outs with these pairs and without those that are barred; these fates are left."""
        clash = self._clash(left)
        if clash is None:
            found.append(outs)
            return
        # One pair of the clash is needed at least; what comes behind a pair does without those ahead of it.
        for bit in ones(clash & ~barred):
            more = outs | 1 << bit
            if len(found) <= most and self.same_command[bit] & ~more and self._are_all_needed(more):
                self._look_for(more, left & ~self.having[bit], barred, found, most)
            barred = barred | 1 << bit

    def _are_all_needed(self, outs):
        """Whether without any one of these pairs some fates that clash would be left."""
        bits = ones(outs)
        for out in bits:
            left = self.everything
            for bit in bits:
                if bit != out:
                    left = left & ~self.having[bit]
            if self._clash(left) is None:
                return False
        return True

    def _clash(self, left):
        """The pairs of two fates among those left that clash, or None if none do."""
        for number, group in enumerate(self.groups):
            if left & group:
                for other in self.against[number]:
                    if left & self.groups[other]:
                        return self._first_mask(left & group) | self._first_mask(left & self.groups[other])
        return None

    def _first_mask(self, some):
        return self.masks[(some & -some).bit_length() - 1]


def views_behind(front, bits):
    """What is seen behind the fates of a list: for each view the masks of its fates, and a spot that shows it."""
    spots = front.spots
    layer = {spots.begin: {0: True}}
    for index, item in enumerate(front.listed):
        layer = masks_with(spots, layer, bits, item, index)
    views = {}
    samples = {}
    for spot, masks in layer.items():
        view = view_from(spots, spot)
        views.setdefault(view, {}).update(masks)
        samples[view] = spot
    return [list(views[view]) for view in views], [samples[view] for view in views]


def masks_with(spots, layer, bits, item, index):
    """The masks of the fates that lead to each spot behind a further item."""
    found = {}
    for spot, masks in layer.items():
        for answer, behind in spots.behind(spot, item, index):
            more = 0 if item == MARK or spot[1] == "broken" else 1 << bits[item[1], answer]
            found.setdefault(behind, {}).update({mask | more: True for mask in masks})
    # What is known of items that no register holds does not matter.
    held = held_in(found)
    kept = {}
    for (place, deal, done), masks in found.items():
        spot = (place, deal, tuple([one for one in done if one in held]))
        kept.setdefault(spot, {}).update(masks)
    return kept


def do_clash(spots, spot, other):
    """Whether at these spots together no item can be forced and the runs do not end alike, whatever the others are.

    Two spots in broken deals may disagree, and yet an item that is the thing at some other spot is right at both.
    """
    if spot[1] == "broken" and other[1] == "broken":
        return False
    return not spots.agree(spot, other)


def ones(number):
    """The places of the bits that a number has, ascending."""
    return [bit for bit in range(number.bit_length()) if number >> bit & 1]


def bits_where(facts):
    """The number that has the bits at whose places this holds."""
    number = 0
    for place, holds in enumerate(facts):
        if holds:
            number = number | 1 << place
    return number
