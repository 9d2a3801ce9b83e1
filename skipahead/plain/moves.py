"""The moves of a program from one work to the next one."""

from skipahead.base.coding import jumped, result_at
from skipahead.base.items import MARK

END = "end"
# Stands for a value that no register has held so far, where classes are numbered from 0.
NEW = -1


class Moves:
    """What a program does behind its commands and marks; each way is worked out once.

    What registers hold stands in a tuple, in their ascending order; what stands for a value is free. A work comes to
    a stand: (line, held, deal) or ("end", result).
    """

    def __init__(self, program):
        self.code = program.lines
        # The place of each register.
        self.slots = {name: slot for slot, name in enumerate(program.registers)}
        # Of each line with a command: the command, the places of what it is sent with, the place of its value.
        self.calls = {
            at: (line[1], [self.slots[name] for name in line[2]], self.slots.get(line[3]))
            for at, line in enumerate(self.code) if line[0] == "do"
        }
        self.initial = tuple([name if name in program.parameters else None for name in self.slots])
        # Of each line with a command, what is known of the way to the next one, by the outcome.
        self.routes = {at: {} for at in self.calls}
        # The first word of each line; the end behind the last line gives the result None.
        self.words = [line[0] for line in self.code] + ["give"]
        # What is known of the number of the first line behind one that is no jump, by this one and the last answer.
        self.hops = {}
        self._ways = {}
        self._falls = {}

    def begun(self):
        """The stand at the beginning of a run."""
        return stood(self.started(), self.initial, "fresh")

    def started(self):
        """The way to the first command that is tried, or to the end."""
        return self._fresh(0, None)

    def stand_tried(self, line, held, outcome, value):
        """The stand behind the command of a line, which has this value if it is done."""
        target = self.calls[line][2]
        if outcome != "failed":
            return stood(self.way(line, outcome), put(held, target, value), "open")
        cleared, way = self._fall(line)
        return stood(way, emptied(held, cleared), "broken")

    def stand_marked(self, line, held, answer):
        """The stand behind the mark of a line."""
        return stood(self.way(line, answer), held, "fresh")

    def thing(self, stand):
        """What is done at a stand or a place: a try of a command, a mark, or an end."""
        if stand[0] == END:
            return stand
        if stand[0] not in self.calls:
            return MARK
        command, slots, _ = self.calls[stand[0]]
        return ("try", command, tuple([stand[1][slot] for slot in slots]))

    def goes_on(self, line):
        """Whether a command is tried behind the mark of a line in a broken deal."""
        return self.way(line, "undone")[0] != END

    def worked(self, line, outcome):
        """The way from a command to the next work, and the places that are emptied on it.

        What comes in a broken deal, and its mark, is no work.
        """
        if outcome != "failed":
            return self.way(line, outcome), ()
        cleared, way = self._fall(line)
        return (way if way[0] == END else self.way(way[0], "undone")), cleared

    def route(self, line, outcome):
        """The way from a command to the next one that is tried: whether it keeps a deal, emptied places, the way."""
        known = self.routes[line]
        if outcome not in known:
            way, cleared = self.worked(line, outcome)
            keeps = way[0] != END and way[0] not in self.calls
            if keeps:
                way = self.way(way[0], "kept")
            known[outcome] = (keeps, cleared, way)
        return known[outcome]

    def way(self, line, answer):
        """The pair of the next line with a work, or END, and the result."""
        if (line, answer) not in self._ways:
            if line in self.calls:
                self._ways[line, answer] = self._stop(self.hop(line, answer), answer)
            else:
                self._ways[line, answer] = self._fresh(line + 1, answer)
        return self._ways[line, answer]

    def hop(self, at, answer):
        """The number of the first line behind line at that is no jump, with this last answer, or that of the end."""
        if (at, answer) not in self.hops:
            self.hops[at, answer] = jumped(self.code, at + 1, answer)
        return self.hops[at, answer]

    def _fresh(self, at, last):
        """The same from line at on in a fresh deal, whose marks make no work."""
        at = jumped(self.code, at, last)
        while at < len(self.code) and self.code[at] == MARK:
            last = "kept"
            at = jumped(self.code, at + 1, last)
        return self._stop(at, last)

    def _fall(self, line):
        """What comes behind a failed command: the places that are emptied, and the way to the mark, or to the end."""
        if line not in self._falls:
            gone = [self.calls[line][2]]
            last = "failed"
            at = jumped(self.code, line + 1, last)
            while at in self.calls:
                gone.append(self.calls[at][2])
                last = "skipped"
                at = jumped(self.code, at + 1, last)
            way = self._stop(at, last)
            # A mark of a broken deal counts only if something is tried behind it.
            if way[0] != END and not self.goes_on(at):
                way = self.way(at, "undone")
            self._falls[line] = ([slot for slot in range(len(self.slots)) if slot in gone], way)
        return self._falls[line]

    def _stop(self, at, last):
        if at in self.calls or (at < len(self.code) and self.code[at] == MARK):
            return at, None
        return END, result_at(self.code, at, last)


def moves_of(program):
    """The moves of a program, which keeps them."""
    if program._moves is None:
        program._moves = Moves(program)
    return program._moves


def stood(way, held, deal):
    """The stand at the end of a way."""
    return way if way[0] == END else (way[0], held, deal)


def put(held, slot, value):
    """What registers hold when the one at a place, if it is one, holds another value."""
    if slot is None:
        return held
    return held[:slot] + (value,) + held[slot + 1:]


def emptied(held, slots):
    """What registers hold when those at these places hold nothing."""
    for slot in slots:
        held = put(held, slot, None)
    return held
