"""What a server has taken from a line."""

from skipahead.base.items import MARK

KEPT = ("kept",)
# The answers to marks.
MARKED = ("kept", "undone")
# What deal the server is in behind some answers; behind the others, of commands that were done, it is open.
MOODS = {"kept": "fresh", "undone": "fresh", "failed": "broken", "skipped": "broken"}


class Tape:
    """Items in order, with the answers to them and the work that they came to; it has no limit."""

    def __init__(self):
        self.taken = []
        self.said = []
        # What an index of an item has as its origin.
        self.sources = []
        self.entries = []
        self.mood = "fresh"
        self.many_tried = 0

    def copied(self):
        """An independent tape with the same items and answers."""
        tape = Tape()
        tape.taken = list(self.taken)
        tape.said = list(self.said)
        tape.sources = list(self.sources)
        tape.entries = list(self.entries)
        tape.mood = self.mood
        tape.many_tried = self.many_tried
        return tape

    def tries(self, item):
        """Whether the server would try this item now."""
        return item != MARK and self.mood != "broken"

    def origin_of(self, argument):
        """The origin of an argument of the next item."""
        return self.sources[argument] if isinstance(argument, int) else argument

    def take(self, item, outcome):
        """Takes an item, which has this outcome if it is tried, and returns the answer."""
        if item == MARK:
            return self.take_mark()
        if self.mood == "broken":
            return self.skip(item)
        return self.take_tried(item, outcome)

    def take_mark(self):
        """Takes a mark, and returns the answer."""
        answer = "kept"
        if self.mood == "open":
            self.entries.append(KEPT)
        elif self.mood == "broken":
            answer = "undone"
        self.taken.append(MARK)
        self.said.append(answer)
        self.sources.append(None)
        self.mood = "fresh"
        return answer

    def skip(self, item):
        """Takes a command that is skipped, and returns the answer."""
        self.taken.append(item)
        self.said.append("skipped")
        self.sources.append(None)
        return "skipped"

    def take_tried(self, item, outcome):
        """Takes a command that is tried and has this outcome, and returns it."""
        sources = self.sources
        tried = self.many_tried
        _, command, origins = item
        if origins:
            origins = tuple([sources[told] if isinstance(told, int) else told for told in origins])
        self.entries.append((command, origins, outcome))
        self.taken.append(item)
        self.said.append(outcome)
        if outcome == "failed":
            sources.append(None)
            self.mood = "broken"
        else:
            sources.append(tried)
            self.mood = "open"
        self.many_tried = tried + 1
        return outcome

    def take_back(self, many):
        """Takes back the last items and returns how many are left."""
        left = len(self.taken) - many
        said = self.said
        if left < many:
            self._keep_first(left)
        else:
            while many > 0:
                many = many - 1
                self.taken.pop()
                self.sources.pop()
                answer = said.pop()
                if answer == "kept":
                    if said and said[-1] not in MARKED:
                        self.entries.pop()
                elif answer != "skipped" and answer != "undone":
                    self.entries.pop()
                    self.many_tried = self.many_tried - 1
        self.mood = MOODS.get(said[-1], "open") if said else "fresh"
        return left

    def _keep_first(self, many):
        """Takes back all items but so many; what these came to is counted."""
        said = self.said[:many]
        tried = [answer for answer in said if answer not in ("kept", "undone", "skipped")]
        kept = [one for one, answer in zip(said, said[1:]) if answer == "kept" and one not in MARKED]
        self.many_tried = len(tried)
        del self.entries[len(tried) + len(kept):]
        del self.taken[many:]
        del self.said[many:]
        del self.sources[many:]
