"""Where a plain run is, item by item."""

from skipahead.base.coding import ENDS, jumped
from skipahead.base.items import MARK


class Course:
    """What a program has sent down a wire, and what it knew at its beginning and behind each item."""

    def __init__(self, code, wire):
        self.code = code
        self.wire = wire
        initial = tuple([name if name in code.parameters else None for name in code.registers])
        # The number of the line with the next item, the last answer, and what the registers hold: a parameter, the
        # index of an item whose command was done, or None.
        self.stops = [(jumped(code.lines, 0, None), None, initial)]

    def copied(self):
        """An independent course with the same items."""
        course = Course(self.code, self.wire.copied())
        course.stops = list(self.stops)
        return course

    def standing(self):
        """Whether the run is going, paused or ended."""
        at = self.stops[-1][0]
        if at == len(self.code.lines) or self.code.lines[at][0] in ENDS:
            return "ended"
        return "paused" if self.wire.lacks(self.next_sent()) else "going"

    def next_sent(self):
        """The item that the program sends next."""
        at, _, held = self.stops[-1]
        line = self.code.lines[at]
        if line == MARK:
            return MARK
        return "send", line[1], tuple([held[self.slot(name)] for name in line[2]])

    def slot(self, name):
        """The place of a register."""
        return self.code.registers.index(name)

    def origin_in(self, name):
        """The origin of what a register holds."""
        return self.wire.tape.origin_of(self.stops[-1][2][self.slot(name)])

    def go_on(self, many):
        """Sends so many items, or fewer if the run ends or pauses sooner."""
        left = many
        while left > 0 and self.standing() == "going":
            self._send()
            left = left - 1

    def take_back(self, many):
        """Takes back the last items and returns how many are left."""
        left = self.wire.take_back(many)
        del self.stops[left + 1:]
        return left

    def _send(self):
        at, _, held = self.stops[-1]
        line = self.code.lines[at]
        answer = self.wire.pass_on(self.next_sent())
        if line != MARK and line[3] is not None:
            index = len(self.wire.tape.taken) - 1
            slot = self.slot(line[3])
            value = index if self.wire.tape.sources[index] is not None else None
            held = held[:slot] + (value,) + held[slot + 1:]
        self.stops.append((jumped(self.code.lines, at + 1, answer), answer, held))
