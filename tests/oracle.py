"""What programs, lists and senders do, worked out anew and slowly from the words of the document."""

import itertools

from tests.model import MARK, Model

KEPT = ("kept",)


class BadRow(Exception):
    """An outcome of a row is none that the tried command can have."""


def on(lines, at, last):
    """The number of the next line that is no jump."""
    while at < len(lines) and lines[at][0] in ("go", "if"):
        line = lines[at]
        at = line[1] if line[0] == "go" else line[2] if last == line[1] else at + 1
    return at


class Walk:
    """A run of a program, item by item, whose values are the indexes of the items or what the caller passes."""

    def __init__(self, program, at=0, last=None, held=None, deal="fresh"):
        self.program = program
        self.lines = program.lines
        names = program.registers
        self.held = dict(held) if held is not None else {name: name if name in program.parameters else None for name in names}
        self.deal = deal
        self.last = last
        self.at = on(self.lines, at, last)

    def twin(self):
        return Walk(self.program, self.at, self.last, self.held, self.deal)

    def ended(self):
        return self.at == len(self.lines) or self.lines[self.at][0] in ("give", "last")

    def result(self):
        if self.at == len(self.lines):
            return None
        return self.last if self.lines[self.at] == ("last",) else self.lines[self.at][1]

    def tries(self):
        return not self.ended() and self.lines[self.at][0] == "do" and self.deal != "broken"

    def item(self):
        """The command and what its registers hold, or a mark."""
        line = self.lines[self.at]
        return MARK if line == MARK else (line[1], tuple(self.held[name] for name in line[2]))

    def step(self, outcome, value):
        """Sends the next item, with this outcome if it is tried; returns the answer."""
        line = self.lines[self.at]
        if line == MARK:
            answer, self.deal = ("undone" if self.deal == "broken" else "kept"), "fresh"
        else:
            answer = "skipped" if self.deal == "broken" else outcome
            if self.deal != "broken":
                self.deal = "broken" if outcome == "failed" else "open"
            if line[3] is not None:
                self.held[line[3]] = None if answer in ("skipped", "failed") else value
        self.last = answer
        self.at = on(self.lines, self.at + 1, answer)
        return answer

    def to_work(self):
        """Goes on to the next work, and returns whether it has come there and not to the end."""
        while not self.ended() and not self.tries() and not (self.lines[self.at] == MARK and self.deal == "open"):
            self.step(None, None)
        return not self.ended()

    def to_stand(self):
        """Goes on to a stand: in a broken deal to its mark, if something is tried behind it."""
        if self.deal == "broken":
            while not self.ended() and self.lines[self.at] != MARK:
                self.step(None, None)
            if self.ended():
                return
            further = self.twin()
            if further.to_work():
                return
        self.to_work()

    def stand(self):
        if self.ended():
            return ("end", self.result())
        return (self.at, numbered([self.held[name] for name in self.program.registers])[0], self.deal)


def numbered(*helds):
    """What registers hold, with numbers in the place of whatever stands for values."""
    found = []
    told = []
    for held in helds:
        row = []
        for value in held:
            if value is not None and not isinstance(value, str) and value not in found:
                found.append(value)
            row.append(value if value is None or isinstance(value, str) else found.index(value))
        told.append(tuple(row))
    return told


def walk_with(program, row):
    """The work, the thing behind it, and whether the row fits."""
    walk = Walk(program)
    work, used = [], 0
    while True:
        if walk.ended():
            return tuple(work), ("end", walk.result()), used == len(row)
        if walk.tries():
            command, origins = walk.item()
            if used == len(row):
                return tuple(work), ("try", command, origins), True
            if row[used] not in program.book.outcomes(command):
                return tuple(work), None, False
            walk.step(row[used], used)
            work.append((command, origins, row[used]))
            used += 1
        else:
            if walk.item() == MARK and walk.deal == "open":
                work.append(KEPT)
            walk.step(None, None)


def rows(program, most):
    """All rows of up to so many outcomes that fit a program."""
    layer = [()]
    for _ in range(most + 1):
        yield from layer
        further = []
        for row in layer:
            thing = walk_with(program, row)[1]
            if thing[0] == "try":
                further += [row + (outcome,) for outcome in program.book.outcomes(thing[1])]
        layer = further


class Lists:
    """The lists for a stand of a program."""

    def __init__(self, program, stand, facts=None):
        self.program = program
        self.stand = stand
        self.choices = {name: facts.outcomes(name) if facts else program.book.outcomes(name) for name in program.book}

    def start(self):
        if self.stand[0] == "end":
            return None
        held = {}
        for name, value in zip(self.program.registers, self.stand[1]):
            held[name] = ("class", value) if isinstance(value, int) else value
        return held

    def fates(self, items):
        """All fates of a list."""
        found = [((), self.stand[2] if len(self.stand) == 3 else "fresh")]
        for item in items:
            further = []
            for fate, deal in found:
                if item == MARK:
                    further.append((fate + ("undone" if deal == "broken" else "kept",), "fresh"))
                elif deal == "broken":
                    further.append((fate + ("skipped",), deal))
                else:
                    for outcome in self.choices[item[1]]:
                        further.append((fate + (outcome,), "broken" if outcome == "failed" else "open"))
            found = further
        return sorted(fate for fate, _ in found)

    def behind(self, items, fate):
        """The run, or its result in a tuple, and the deal behind a right list and a fate."""
        if self.stand[0] == "end":
            return (self.stand[1],), "fresh"
        line, _, deal = self.stand
        walk = Walk(self.program, line, None, self.start(), deal)
        walk.at = line
        for index, (item, answer) in enumerate(zip(items, fate)):
            if deal == "broken":
                if item == MARK:
                    deal = "fresh"
                    if not walk.ended():
                        walk.step(None, None)
            else:
                walk.step(answer if item != MARK else None, ("item", index))
                deal = "fresh" if item == MARK else "broken" if answer == "failed" else "open"
            walk.to_stand()
        return ((walk.result(),) if walk.ended() else walk), deal

    def thing(self, items, fate):
        walk, deal = self.behind(items, fate)
        if isinstance(walk, tuple):
            return ("end", walk[0])
        item = walk.item()
        return item if item == MARK else ("try",) + item

    def gives(self, argument, fate):
        if argument is None:
            return None
        if isinstance(argument, str):
            return self.start()[argument] if self.start() is not None else None
        return ("item", argument) if fate[argument] not in ("failed", "skipped") else None

    def right(self, items, fate, item):
        """Whether an item is right behind a right list and a fate."""
        walk, deal = self.behind(items, fate)
        if deal == "broken":
            return True
        thing = self.thing(items, fate)
        if item == MARK:
            return thing == MARK
        return thing == ("try", item[1], tuple(self.gives(argument, fate) for argument in item[2]))

    def is_right(self, items):
        return all(
            self.right(items[:at], fate, item) for at, item in enumerate(items) for fate in self.fates(items[:at])
        )

    def all_items(self, items):
        """All items that can stand behind a list, the first arguments first."""
        arguments = [None, *self.program.registers] + [at for at, item in enumerate(items) if item != MARK]
        found = [MARK]
        for command in self.program.book:
            ways = itertools.product(arguments, repeat=self.program.book.takes(command))
            found += [("send", command, way) for way in ways]
        return found

    def is_thing(self, items, fate, item):
        """Whether an item is the thing behind a fate."""
        thing = self.thing(items, fate)
        if thing == MARK or item == MARK:
            return thing == item
        return thing == ("try", item[1], tuple(self.gives(argument, fate) for argument in item[2]))

    def forced(self, items, fates):
        """The first item that is forced behind a right list and all of these fates."""
        for item in self.all_items(items):
            if all(self.right(items, fate, item) for fate in fates):
                if any(self.is_thing(items, fate, item) for fate in fates):
                    return item
        return None

    def forced_list(self, window):
        items = ()
        while len(items) < window:
            item = self.forced(items, self.fates(items))
            if item is None:
                break
            items += (item,)
        return items

    def agree(self, items, fate, other):
        one, two = self.thing(items, fate), self.thing(items, other)
        if one[0] == "end" and two[0] == "end":
            return one == two
        return self.forced(items, [fate, other]) is not None

    def paper(self, window):
        items = self.forced_list(window)
        fates = self.fates(items)
        things = {self.thing(items, fate) for fate in fates}
        if len(things) == 1 and min(things)[0] == "end":
            return ("ends", min(things)[1])
        if self.forced(items, fates) is not None:
            assert len(items) == window
            return ("full",)
        for fate in fates:
            for other in fates:
                if not self.agree(items, fate, other):
                    return ("fork", fate, other)
        raise AssertionError("no fork")


def line_of(items, outcomes):
    """A model of a line with these items, whose outcomes are those of the tried ones."""
    return Model(list(zip(items, outcomes)))
