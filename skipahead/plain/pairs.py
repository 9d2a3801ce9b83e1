"""Pair states: how two programs stand behind the same work."""

from skipahead.base.items import MARK
from skipahead.base.search import FAULT, KEEPS, OVER, TRIES
from skipahead.plain.moves import END, moves_of
from skipahead.plain.places import held_at

# What a register can hold besides a value and a parameter: nothing, and a value that none has held so far.
NOTHING = -1
FRESH = 99


class Pairs:
    """The pair states of two programs, and the steps from each to those behind it.

    A pair state has a key: the number of a node, and the number of what the registers of both hold, those of the first
    one ahead. A node is what the state tells without them: the line of each program, or its end, and the deal. What is
    held is told in numbers: a value as the place of the first register that holds it, a parameter below NOTHING.
    """

    def __init__(self, one, other):
        self.choices = {command: one.book.outcomes(command) for command in one.book}
        self.sides = (moves_of(one), moves_of(other))
        self.many = len(one.registers)
        # What is told below 0.
        self.named = (None,) + one.parameters
        self.nodes = []
        self.helds = []
        self._numbers = {}
        self._held_numbers = {}
        self._shows = {}
        # Of each node the word of its step, the places that have to hold the same, and the ways on; None if not known.
        self._plans = []
        # For each change, by the number of what registers held, that of what they hold behind it.
        self._memos = {}
        # Of each program the way behind a line and an outcome, and how its registers change.
        self._sides = {}

    def first(self):
        """The key of the first pair state."""
        one, other = self.sides
        ways = ((one.started(), tuple(range(self.many))), (other.started(), self._further()))
        node, change = self._joined("fresh", ways)
        return node, self._held(changed(change, self._coded(one.initial + other.initial)))

    def step(self, key):
        """The step from a pair state, as a search asks for it."""
        number, held = key
        plan = self._plans[number]
        if plan is None:
            plan = self._plans[number] = self._plan(self.nodes[number])
        word, compared, ways = plan
        for one, two in compared:
            if self.helds[held][one] != self.helds[held][two]:
                return FAULT, None
        return (word, self.behind(key, None, ways)) if word == KEEPS else (word, ways)

    def behind(self, key, outcome, way):
        """The key behind a pair state and a way on from it."""
        held = key[1]
        node, change, memo = way
        known = memo.get(held)
        if known is None:
            known = memo[held] = self._held(changed(change, self.helds[held]))
        return node, known

    def key_of(self, state):
        """The key of a pair state."""
        place, further, deal = state
        held = self._held(self._coded(held_at(place) + held_at(further)))
        return self._node(line_of(place), line_of(further), deal), held

    def shown(self, key):
        """The text of the pair state with a key, and this state."""
        line, further, deal = self.nodes[key[0]]
        if isinstance(line, int) and isinstance(further, int):
            held, more, text, further_text = self._shown(key[1])
            state = ((line, held), (further, more), deal)
            return f"(({line}, {text}), ({further}, {further_text}), {deal!r})", state
        held = self._told(self.helds[key[1]])
        one = (line, held) if isinstance(line, int) else line
        state = (one, (further, held) if isinstance(further, int) else further, deal)
        return repr(state), state

    def _shown(self, number):
        """What the registers of each program hold, where neither has ended, and the texts of both."""
        if number not in self._shows:
            held = self._told(self.helds[number])
            one, other = held[:self.many], held[self.many:]
            self._shows[number] = (one, other, repr(one), repr(other))
        return self._shows[number]

    def _coded(self, held):
        """What registers hold, in numbers."""
        numbers = {name: NOTHING - number for number, name in enumerate(self.named)}
        return tuple([numbers[value] if value in numbers else held.index(value) for value in held])

    def _told(self, held):
        """What registers hold, as a pair state tells it."""
        numbers = {}
        for value in held:
            if value >= 0 and value not in numbers:
                numbers[value] = len(numbers)
        return tuple([numbers[value] if value >= 0 else self.named[NOTHING - value] for value in held])

    def _further(self):
        """The places of the registers of the second program."""
        return tuple(range(self.many, self.many + len(self.sides[1].initial)))

    def _held(self, held):
        """The number of what registers hold."""
        number = self._held_numbers.setdefault(held, len(self.helds))
        if number == len(self.helds):
            self.helds.append(held)
        return number

    def _node(self, line, further, deal):
        """The number of a node."""
        node = (line, further, deal)
        if node not in self._numbers:
            self._numbers[node] = len(self.nodes)
            self.nodes.append(node)
            self._plans.append(None)
        return self._numbers[node]

    def _plan(self, node):
        """What is done at a node."""
        line, further, _ = node
        if not isinstance(line, int) or not isinstance(further, int):
            return (OVER if line == further else FAULT), (), None
        one, other = self.sides
        if one.code[line] == MARK and other.code[further] == MARK:
            kept = ((one.way(line, "kept"), tuple(range(self.many))), (other.way(further, "kept"), self._further()))
            return KEEPS, (), self._way("fresh", kept)
        if line not in one.calls or further not in other.calls or one.calls[line][0] != other.calls[further][0]:
            return FAULT, (), None
        compared = [(slot, self.many + more) for slot, more in zip(one.calls[line][1], other.calls[further][1])]
        ways = []
        for outcome in self.choices[one.calls[line][0]]:
            tried = (self._side(0, line, outcome), self._side(1, further, outcome))
            ways.append((outcome, self._way("fresh" if outcome == "failed" else "open", tried)))
        return TRIES, compared, ways

    def _side(self, number, line, outcome):
        """The way of a program behind a line and an outcome, and how its registers change."""
        key = (number, line, outcome)
        if key not in self._sides:
            side = self.sides[number]
            way, gone = side.worked(line, outcome)
            target = side.calls[line][2] if outcome != "failed" else None
            begin = self.many * number
            self._sides[key] = (way, tuple([change_at(slot, begin, target, gone) for slot in range(len(side.initial))]))
        return self._sides[key]

    def _way(self, deal, ways):
        """The node behind the ways of both programs, how registers change, and what is known of this change."""
        node, change = self._joined(deal, ways)
        if change not in self._memos:
            self._memos[change] = {}
        return node, change, self._memos[change]

    def _joined(self, deal, ways):
        """The node to which both programs come, and how the registers of both change."""
        (way, change), (further, more) = ways
        if way[0] == END and further[0] == END:
            return self._node(way, further, "fresh"), ()
        if way[0] == END:
            return self._node(way, further[0], deal), more
        if further[0] == END:
            return self._node(way[0], further, deal), change
        return self._node(way[0], further[0], deal), change + more


def line_of(place):
    """The line at a place, or the place itself if it is an end."""
    return place if place[0] == END else place[0]


def change_at(slot, begin, target, gone):
    """What the register at a place holds behind a command: the place of what held it, or one behind all registers."""
    if slot == target:
        return -1
    return -2 if slot in gone else begin + slot


def changed(change, held):
    """What registers hold behind a change, where each value is told anew by its first place."""
    known = held + (NOTHING, FRESH)
    values = [known[place] for place in change]
    return tuple([values.index(value) if value >= 0 else value for value in values])
