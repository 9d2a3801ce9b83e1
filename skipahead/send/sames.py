"""Same states: how a program and a sender stand behind the same work."""

from skipahead.base.coding import ENDS, result_at
from skipahead.base.counts import MAX_WINDOW, is_count
from skipahead.base.items import MARK
from skipahead.base.names import RESERVED
from skipahead.base.search import FAULT, KEEPS, OVER, SILENT, TRIES
from skipahead.line.facts import choices_of
from skipahead.plain.moves import END, NEW, emptied, moves_of, put
from skipahead.plain.places import held_at, is_numbered, is_place, numbered, numbers_of
from skipahead.send.script import script_of


class Sames:
    """The same states of a program and a sender for a window and facts, and the steps to those behind each.

    A same state has a key: the next line, the last answer, the unread answers, the deal, and the number of a world. A
    world is what registers hold and the place of the program.
    """

    def __init__(self, program, sender, window, facts):
        self.moves = moves_of(program)
        self.script = script_of(sender)
        self.most = window
        self.choices = choices_of(program.book, facts)
        self.worlds = []
        self._numbers = {}
        self._texts = {}
        # What comes behind a line in a world, or in a world with a deal, where registers change or something is tried.
        self._behind = {}
        self._tries = {}

    def first(self):
        """The key of the first same state."""
        return 0, None, (), "fresh", self._world(self.script.initial, self.moves.begun()[:2])

    def key_of(self, state):
        """The key of a same state."""
        at, last, held, unread, deal, place = state
        return at, last, unread, deal, self._world(held, place)

    def shown(self, key):
        """The text of the same state with a key, and this state."""
        at, last, unread, deal, number = key
        held, place = self.worlds[number]
        if number not in self._texts:
            self._texts[number] = (repr(held), repr(place))
        text, place_text = self._texts[number]
        return f"({at}, {last!r}, {text}, {unread!r}, {deal!r}, {place_text})", (at, last, held, unread, deal, place)

    def step(self, key):
        """The step from a same state, as a search asks for it."""
        at, last, unread, deal, world = key
        word = self.script.words[at]
        if word == "read":
            return (SILENT, (at + 1, unread[0], unread[1:], deal, world)) if unread else (FAULT, None)
        if word == "send":
            return self._sent(key)
        if word == "mark":
            return self._marked(key)
        if word in ENDS:
            place = (END, result_at(self.script.code, at, last))
            return (OVER if self.worlds[world][1] == place else FAULT), None
        if word == "copy":
            return SILENT, (at + 1, last, unread, deal, self._changed(at, world))
        return SILENT, (self.script.quiet(at, last, ())[0], last, unread, deal, world)

    def _sent(self, key):
        at, last, unread, deal, world = key
        if len(unread) >= self.most:
            return FAULT, None
        if deal == "broken":
            return SILENT, (at + 1, last, unread + ("skipped",), deal, self._changed(at, world))
        told = self._tries.get((at, world))
        if told is None:
            told = self._tries[at, world] = self._tried(at, world)
        return (TRIES, told) if told else (FAULT, None)

    def behind(self, key, outcome, way):
        """The key behind a same state at which a command is tried and a way on from it."""
        at, last, unread, _, _ = key
        return at + 1, last, unread + (outcome,), way[0], way[1]

    def _marked(self, key):
        at, last, unread, deal, world = key
        if len(unread) >= self.most:
            return FAULT, None
        if deal != "open":
            answer = "undone" if deal == "broken" else "kept"
            return SILENT, (at + 1, last, unread + (answer,), "fresh", world)
        if self.moves.thing(self.worlds[world][1]) != MARK:
            return FAULT, None
        return KEEPS, (at + 1, last, unread + ("kept",), "fresh", self._changed(at, world))

    def _tried(self, at, world):
        """The outcomes of a command that is sent, with the deal and the world behind each; none if this is not well."""
        held, place = self.worlds[world]
        command, slots, target = self.script.calls[at]
        if self.moves.thing(place) != ("try", command, tuple([held[slot] for slot in slots])):
            return []
        told = []
        for outcome in self.choices[command]:
            done = outcome != "failed"
            way, gone = self.moves.worked(place[0], outcome)
            kept = emptied(put(place[1], self.moves.calls[place[0]][2] if done else None, NEW), gone)
            further = way if way[0] == END else (way[0], kept)
            behind = self._world(put(held, target, NEW if done else None), further)
            told.append((outcome, ("open" if done else "broken", behind)))
        return told

    def _changed(self, at, world):
        """The world behind a line that copies, that is skipped, or whose mark keeps an open deal."""
        if (at, world) not in self._behind:
            held, place = self.worlds[world]
            word = self.script.words[at]
            if word == "mark":
                place = self.moves.stand_marked(place[0], place[1], "kept")[:2]
            elif word == "send":
                held = put(held, self.script.calls[at][2], None)
            else:
                held = self.script.quiet(at, None, held)[2]
            self._behind[at, world] = self._world(held, place)
        return self._behind[at, world]

    def _world(self, held, place):
        """The number of a world, its classes numbered anew."""
        numbers = numbers_of(held + held_at(place))
        world = (tuple([numbers.get(value, value) for value in held]), numbered(place, numbers))
        if world not in self._numbers:
            self._numbers[world] = len(self.worlds)
            self.worlds.append(world)
        return self._numbers[world]


def is_same_state(program, sender, value):
    """Whether the value has the form of a same state, reached or not."""
    if not isinstance(value, tuple) or len(value) != 6:
        return False
    at, last, held, unread, deal, place = value
    if not is_count(at) or at > len(sender.lines) or deal not in ("fresh", "open", "broken"):
        return False
    if not isinstance(held, tuple) or len(held) != len(sender.registers):
        return False
    if not all([one is None or is_count(one) or one in sender.parameters for one in held]):
        return False
    known = [answer for command in sender.book for answer in sender.book.answers(command)] + list(RESERVED)
    if last is not None and last not in known:
        return False
    if not isinstance(unread, tuple) or len(unread) > MAX_WINDOW or not all([answer in known for answer in unread]):
        return False
    return is_place(program, place, deal) and is_numbered(held + held_at(place))
