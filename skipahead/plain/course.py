"""Where a plain run is, item by item."""

from skipahead.plain.moves import put


class Course:
    """What a program has sent down a wire, and where it stood at its beginning and behind each item."""

    def __init__(self, moves, wire, stops):
        self.moves = moves
        self.wire = wire
        # The number of the line with the next item, and what the registers hold: a parameter, the index of an item
        # whose command was done, or None.
        self.stops = stops

    def copied(self):
        """An independent course with the same items."""
        return Course(self.moves, self.wire.copied(), list(self.stops))

    def standing(self):
        """Whether the run is going, paused or ended."""
        word = self.moves.words[self.stops[-1][0]]
        if word != "do":
            return "going" if word == "mark" else "ended"
        return "paused" if self.wire.lacks() else "going"

    def last_said(self):
        """The last answer."""
        return self.wire.tape.said[-1] if len(self.stops) > 1 else None

    def origin_in(self, name):
        """The origin of what a register holds."""
        return self.wire.tape.origin_of(self.stops[-1][1][self.moves.slots[name]])

    def go_on(self, many):
        """Sends so many items, or fewer if the run ends or pauses sooner."""
        moves = self.moves
        hops = moves.hops
        at, held = self.stops[-1]
        index = len(self.stops) - 1
        end = index + many
        while index < end:
            word = moves.words[at]
            if word == "do":
                command, slots, target = moves.calls[at]
                answer = self.wire.pass_call(("send", command, tuple([held[slot] for slot in slots]) if slots else ()))
                if answer is None:
                    break
                if target is not None:
                    held = put(held, target, None if answer == "failed" or answer == "skipped" else index)
            elif word == "mark":
                answer = self.wire.pass_mark()
            else:
                break
            further = hops.get((at, answer))
            at = moves.hop(at, answer) if further is None else further
            self.stops.append((at, held))
            index = index + 1

    def take_back(self, many):
        """Takes back the last items and returns how many are left."""
        left = self.wire.take_back(many)
        del self.stops[left + 1:]
        return left
