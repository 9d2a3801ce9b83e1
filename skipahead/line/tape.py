"""What a server has taken from a line."""

from skipahead.base.items import MARK

KEPT = ("kept",)


class Tape:
    """Items in order, with the answers to them and the work that they came to; it has no limit."""

    def __init__(self):
        self.taken = []
        self.said = []
        # What an index of an item has as its origin.
        self.sources = []
        self.entries = []
        self.mood = "fresh"
        self.many_tried = 0

    def copied(self):
        """An independent tape with the same items and answers."""
        tape = Tape()
        tape.taken = list(self.taken)
        tape.said = list(self.said)
        tape.sources = list(self.sources)
        tape.entries = list(self.entries)
        tape.mood = self.mood
        tape.many_tried = self.many_tried
        return tape

    def tries(self, item):
        """Whether the server would try this item now."""
        return item != MARK and self.mood != "broken"

    def origin_of(self, argument):
        """The origin of an argument of the next item."""
        return self.sources[argument] if isinstance(argument, int) else argument

    def take(self, item, outcome):
        """Takes an item, which has this outcome if it is tried, and returns the answer."""
        if item == MARK:
            return self.take_mark()
        if self.mood == "broken":
            return self.skip(item)
        return self.take_tried(item, outcome)

    def take_mark(self):
        """Takes a mark, and returns the answer."""
        answer = "kept"
        if self.mood == "open":
            self.entries.append(KEPT)
        elif self.mood == "broken":
            answer = "undone"
        self.taken.append(MARK)
        self.said.append(answer)
        self.sources.append(None)
        self.mood = "fresh"
        return answer

    def skip(self, item):
        """Takes a command that is skipped, and returns the answer."""
        self.taken.append(item)
        self.said.append("skipped")
        self.sources.append(None)
        return "skipped"

    def take_tried(self, item, outcome):
        """Takes a command that is tried and has this outcome, and returns it."""
        sources = self.sources
        tried = self.many_tried
        _, command, origins = item
        if origins:
            origins = tuple([sources[told] if isinstance(told, int) else told for told in origins])
        self.entries.append((command, origins, outcome))
        self.taken.append(item)
        self.said.append(outcome)
        if outcome == "failed":
            sources.append(None)
            self.mood = "broken"
        else:
            sources.append(tried)
            self.mood = "open"
        self.many_tried = tried + 1
        return outcome

    def take_back(self, many):
        """Takes back the last items and returns how many are left."""
        left = len(self.taken) - many
        # Fewer items are looked at: those that are left, or those that are taken back.
        if left < many:
            self.many_tried, kept = self._counted(0, left)
            works = self.many_tried + kept
        else:
            tried, kept = self._counted(left, left + many)
            self.many_tried = self.many_tried - tried
            works = len(self.entries) - tried - kept
        del self.taken[left:]
        del self.said[left:]
        del self.sources[left:]
        del self.entries[works:]
        self.mood = mood_behind(self.said[-1]) if left > 0 else "fresh"
        return left

    def _counted(self, begin, end):
        """How many of these items are commands that were tried, and how many are marks of kept deals with such."""
        tried = 0
        kept = 0
        for index in range(begin, end):
            if self.taken[index] == MARK:
                if self.said[index] == "kept" and index > 0 and self.taken[index - 1] != MARK:
                    kept = kept + 1
            elif self.said[index] != "skipped":
                tried = tried + 1
        return tried, kept


def mood_behind(answer):
    """What deal the server is in behind an item with this answer."""
    if answer == "kept" or answer == "undone":
        return "fresh"
    return "broken" if answer == "failed" or answer == "skipped" else "open"
