"""What a server has taken from a line."""

from skipahead.base.counts import is_count
from skipahead.base.items import MARK

KEPT = ("kept",)


class Tape:
    """Items in order, with the answers to them and the work that they came to; it has no limit."""

    def __init__(self):
        self.taken = []
        self.said = []
        # What an index of an item has as its origin.
        self.sources = []
        self.entries = []
        # At the beginning and behind each item: the deal, the number of entries, the number of tried commands.
        self.levels = [("fresh", 0, 0)]

    def copied(self):
        """An independent tape with the same items and answers."""
        tape = Tape()
        tape.taken = list(self.taken)
        tape.said = list(self.said)
        tape.sources = list(self.sources)
        tape.entries = list(self.entries)
        tape.levels = list(self.levels)
        return tape

    def tries(self, item):
        """Whether the server would try this item now."""
        return item != MARK and self.levels[-1][0] != "broken"

    def origin_of(self, argument):
        """The origin of an argument of the next item."""
        return self.sources[argument] if is_count(argument) else argument

    def take(self, item, outcome):
        """Takes an item, which has this outcome if it is tried, and returns the answer."""
        if item == MARK:
            return self._end_deal()
        if not self.tries(item):
            return self._note(item, "skipped", None, self.levels[-1])
        return self._try(item, outcome)

    def take_back(self, many):
        """Takes back the last items and returns how many are left."""
        left = len(self.taken) - many
        del self.taken[left:]
        del self.said[left:]
        del self.sources[left:]
        del self.levels[left + 1:]
        del self.entries[self.levels[-1][1]:]
        return left

    def _end_deal(self):
        deal, _, tried = self.levels[-1]
        if deal == "open":
            self.entries.append(KEPT)
        answer = "undone" if deal == "broken" else "kept"
        return self._note(MARK, answer, None, ("fresh", len(self.entries), tried))

    def _try(self, item, outcome):
        tried = self.levels[-1][2]
        origins = tuple([self.origin_of(argument) for argument in item[2]])
        self.entries.append((item[1], origins, outcome))
        deal, source = ("broken", None) if outcome == "failed" else ("open", tried)
        return self._note(item, outcome, source, (deal, len(self.entries), tried + 1))

    def _note(self, item, answer, source, level):
        self.taken.append(item)
        self.said.append(answer)
        self.sources.append(source)
        self.levels.append(level)
        return answer
