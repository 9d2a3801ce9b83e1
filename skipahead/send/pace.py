"""How far a run of a sender is when a forward run waits."""

from skipahead.ahead.spots import stand_at
from skipahead.base.coding import ENDS
from skipahead.base.items import MARK
from skipahead.base.search import FAULT, OVER, TRIES
from skipahead.plain.moves import moves_of
from skipahead.send.script import script_of


class Pace:
    """A forward run and a run of a sender that does the same, side by side, and the steps to what comes behind.

    A key is (ahead, hand, gap). Ahead is (stand, index, place, deal): the place of the program in the list of a stand,
    whose item with this index comes next. Hand is (at, last, unread, come, deal) of the sender, of whose unread answers
    the first ones have come. The gap tells how many entries more the forward run has done since the last wait. A fault
    is where the sender has waited ahead of what the forward run does without.
    """

    def __init__(self, program, sender, found):
        self.moves = moves_of(program)
        self.script = script_of(sender)
        # What forward runs send at each stand.
        self.found = found

    def first(self):
        """The key at the beginning."""
        return self._ahead_at(self.moves.begun()), (0, None, (), 0, "fresh"), 0

    def step(self, key):
        """The step from a key, as a search asks for it."""
        ahead, hand, gap = key
        while True:
            ahead, more = self._gone_ahead(ahead)
            hand, less = self._gone_on(hand)
            gap = gap + more - less
            reach = self.found[ahead[0]]
            if ahead[1] < len(reach.front.listed):
                command = reach.front.listed[ahead[1]][1]
                return TRIES, [(outcome, (ahead, hand, gap)) for outcome in reach.front.spots.choices[command]]
            word = self.script.words[hand[0]]
            if word in ENDS:
                return (FAULT if reach.waits_here else OVER), None
            if gap > 0 or not reach.waits_here:
                return FAULT, None
            # Both wait, behind the same work.
            ahead = self._ahead_at(stand_at((ahead[2], ahead[3], ())))
            at, last, unread, _, deal = hand
            hand = (at, last, unread, len(unread), deal)

    def behind(self, key, outcome, way):
        """The key behind one at which something is tried and a way on from it."""
        (stand, index, place, _), hand, gap = way
        deal = "broken" if outcome == "failed" else "open"
        further = self.moves.stand_tried(place[0], place[1], outcome, index)
        at, last, unread, come, _ = hand
        if self.script.words[at] == "send":
            hand = (at + 1, last, unread + (outcome,), come, deal)
        else:
            # The sender waits, and the forward run goes on alone.
            gap = gap + 1
        return (stand, index + 1, further[:2], deal), hand, gap

    def _ahead_at(self, stand):
        """Where a forward run is that has come to a stand."""
        place, deal, _ = self.found[stand].front.spots.begin
        return stand, 0, place, deal

    def _gone_ahead(self, ahead):
        """Where a forward run is when it tries a command next or has sent its list, and how many deals it has kept."""
        stand, index, place, deal = ahead
        listed = self.found[stand].front.listed
        kept = 0
        while index < len(listed) and (listed[index] == MARK or deal == "broken"):
            if listed[index] == MARK:
                kept = kept + (1 if deal == "open" else 0)
                if isinstance(place[1], tuple):
                    place = self.moves.stand_marked(place[0], place[1], "undone" if deal == "broken" else "kept")[:2]
                deal = "fresh"
            index = index + 1
        return (stand, index, place, deal), kept

    def _gone_on(self, hand):
        """Where a sender is when it tries a command next, waits or ends, and how many deals it has kept."""
        at, last, unread, come, deal = hand
        kept = 0
        while True:
            word = self.script.words[at]
            if word == "read" and come > 0:
                at, last, unread, come = at + 1, unread[0], unread[1:], come - 1
            elif word == "mark":
                kept = kept + (1 if deal == "open" else 0)
                at, unread, deal = at + 1, unread + ("undone" if deal == "broken" else "kept",), "fresh"
            elif word == "send" and deal == "broken":
                at, unread = at + 1, unread + ("skipped",)
            elif word in ("go", "if", "copy"):
                at = self.script.quiet(at, last, self.script.initial)[0]
            else:
                return (at, last, unread, come, deal), kept
