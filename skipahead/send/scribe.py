"""What a made sender does at the stands that forward runs reach."""

from skipahead.ahead.front import all_fates, last_uses
from skipahead.ahead.spots import stand_at
from skipahead.base.items import MARK
from skipahead.plain.moves import END

LETTERS = "abcdefghijklmnopqrstuvwxyz"
READ = ("read",)
# Behind the last item of each list.
NEVER = 1000


class Scribe:
    """The lines of a sender for a program and what its forward runs send at the stands that they reach.

    For each stand there is a block: it sends the list, reads all answers, and goes on to the block of the stand behind
    them. What a register of the program holds besides its parameter stands in a register of the sender, its home. An
    item of the list that cannot be in a home at once is in a spare register until it is known what has become of it.
    """

    def __init__(self, program, found):
        self.found = found
        self.register_names = program.registers
        self.free_names = [letter for letter in LETTERS if letter not in program.registers]
        self.homes = {name: name for name in program.registers if name not in program.parameters}
        self.spares = []
        self.nothing = None
        # The lines, where a jump goes to a stand, to the number of a branch, or to the end, which is None.
        self.sheet = []
        self.labels = {}
        self.branches = 0

    def written(self):
        """The lines."""
        for stand in self.found:
            self.labels[stand] = len(self.sheet)
            self._write_block(self.found[stand])
        self.labels[None] = len(self.sheet)
        return tuple([self._resolved(row) for row in self.sheet])

    def _resolved(self, row):
        return row[:-1] + (self.labels[row[-1]],) if row[0] in ("go", "if") else row

    def _write_block(self, reach):
        """Sends the list of a stand, and what comes behind it."""
        listed = reach.front.listed
        spots = reach.front.spots
        ends = []
        if reach.waits_here:
            for fate in all_fates(spots.choices, spots.begin[1], listed):
                spot = spots.walked(listed, fate)
                ends.append((fate, stand_at(spot), () if spot[0][0] == END else spot[0][1]))
        places = self._places(listed, spots, ends)
        for index, item in enumerate(listed):
            if item == MARK:
                self.sheet.append(MARK)
            else:
                told = tuple([self._register(argument, places, spots.given) for argument in item[2]])
                self.sheet.append(("send", item[1], told, places[index]))
        if ends:
            self._write_branch(ends, places, 0)
        else:
            # All spots are ends with one result.
            self._write_end(list(reach.front.least)[0][0][1])

    def _write_branch(self, ends, places, depth):
        """Reads the answers from this one on, with which these fates go on, and goes on behind each."""
        if depth == len(ends[0][0]):
            self._write_leaf(ends[0], places)
            return
        self.sheet.append(READ)
        groups = {}
        for end in ends:
            groups.setdefault(end[0][depth], []).append(end)
        answers = list(groups)
        begun = self.branches
        self.branches = begun + len(answers)
        for number, answer in enumerate(answers[1:]):
            self.sheet.append(("if", answer, begun + number))
        self._write_branch(groups[answers[0]], places, depth + 1)
        for number, answer in enumerate(answers[1:]):
            self.labels[begun + number] = len(self.sheet)
            self._write_branch(groups[answer], places, depth + 1)

    def _write_leaf(self, end, places):
        """Brings the items that are still held to their homes, and goes on to the block of the next stand."""
        _, stand, values = end
        for name, value in zip(self.register_names, values):
            if isinstance(value, int) and value >= 0 and places[value] != self._home(name):
                self.sheet.append(("copy", self._home(name), places[value]))
        if stand[0] == END:
            self._write_end(stand[1])
        else:
            self.sheet.append(("go", stand))

    def _write_end(self, result):
        self.sheet.append(("go", None) if result is None else ("give", result))

    def _places(self, listed, spots, ends):
        """The register of each item of a list, or None for one that nothing needs."""
        uses = last_uses(listed)
        holders = {}
        # From which item on a register can hold another one.
        free = {}
        for index, item in enumerate(listed):
            for argument in item[2] if item != MARK else ():
                if isinstance(argument, str) and isinstance(spots.given[argument], int):
                    free[self._home(argument)] = index
        for _, _, values in ends:
            for name, value in zip(self.register_names, values):
                if isinstance(value, int) and value >= 0:
                    holders.setdefault(value, {})[name] = True
                elif isinstance(value, int):
                    free[self._home(name)] = NEVER
        return [
            None if item == MARK else self._place_of(index, uses.get(index, -1), list(holders.get(index, {})), free)
            for index, item in enumerate(listed)
        ]

    def _place_of(self, index, use, names, free):
        """The register of an item with this last use, which these registers of the program may come to hold."""
        if use < 0 and not names:
            return None
        choices = list(self.spares)
        if len(names) == 1:
            choices = [self._home(names[0])] + choices
        fitting = [register for register in choices if free.get(register, -1) <= index]
        if not fitting:
            self.spares.append(self._new_name())
            fitting = self.spares[-1:]
        free[fitting[0]] = NEVER if names else use
        return fitting[0]

    def _register(self, argument, places, given):
        """The register of the sender that holds what an argument gives."""
        if isinstance(argument, int):
            return places[argument]
        if isinstance(argument, str):
            return given[argument] if isinstance(given[argument], str) else self._home(argument)
        if self.nothing is None:
            self.nothing = self._new_name()
        return self.nothing

    def _home(self, name):
        if name not in self.homes:
            self.homes[name] = self._new_name()
        return self.homes[name]

    def _new_name(self):
        return self.free_names.pop(0)
