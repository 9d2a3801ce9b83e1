"""Same states: how a program and a sender stand behind the same work."""

from skipahead.base.coding import ENDS, result_at
from skipahead.base.counts import MAX_WINDOW, is_count
from skipahead.base.items import MARK
from skipahead.base.names import RESERVED
from skipahead.line.facts import choices_of
from skipahead.plain.moves import END, NEW, Moves, put
from skipahead.plain.places import held_at, is_numbered, is_place, numbered, numbers_of
from skipahead.send.script import SENDS, Script


class Sames:
    """The same states of a program and a sender for a window and facts, and the steps to those behind each."""

    def __init__(self, program, sender, window, facts):
        self.moves = Moves(program)
        self.script = Script(sender)
        self.most = window
        self.choices = choices_of(program.book, facts)

    def first(self):
        """The first same state."""
        return 0, None, self.script.initial, (), "fresh", self.moves.begun()[:2]

    def goes_well(self, state):
        """Whether the sender goes on well at a state."""
        at, last, held, unread, deal, place = state
        word = self.script.word_at(at)
        if word in ENDS:
            return place == (END, result_at(self.script.code, at, last))
        if word == "read":
            return len(unread) > 0
        if word in SENDS and len(unread) >= self.most:
            return False
        if word == "mark":
            return deal != "open" or self.moves.thing(place) == MARK
        if word == "send" and deal != "broken":
            command, slots, _ = self.script.calls[at]
            return self.moves.thing(place) == ("try", command, tuple([held[slot] for slot in slots]))
        return True

    def is_silent(self, state):
        """Whether no command is tried in the step from a state, and no open deal is kept."""
        word = self.script.word_at(state[0])
        return (word != "send" or state[4] == "broken") and (word != "mark" or state[4] != "open")

    def steps(self, state):
        """The pairs of an outcome, or None, and the state behind it; none where the sender does not go on well."""
        at, last, held, unread, deal, place = state
        word = self.script.word_at(at)
        if word in ENDS or not self.goes_well(state):
            return []
        if word == "send" and deal != "broken":
            return [(outcome, self._behind_try(state, outcome)) for outcome in self.choices[self.script.calls[at][0]]]
        if word == "send":
            held = put(held, self.script.calls[at][2], None)
            return [(None, told_anew(at + 1, last, held, unread + ("skipped",), deal, place))]
        if word == "mark":
            answer = "undone" if deal == "broken" else "kept"
            further = self.moves.stand_marked(place[0], place[1], answer) if deal == "open" else place
            return [(None, told_anew(at + 1, last, held, unread + (answer,), "fresh", further))]
        at, last, held = self.script.quiet(at, last, held, unread[0] if word == "read" else None)
        left = unread[1:] if word == "read" else unread
        return [(None, told_anew(at, last, held, left, deal, place))]

    def _behind_try(self, state, outcome):
        at, last, held, unread, _, place = state
        further = self.moves.stand_worked(self.moves.stand_tried(place[0], place[1], outcome, NEW))
        done = outcome != "failed"
        held = put(held, self.script.calls[at][2], NEW if done else None)
        return told_anew(at + 1, last, held, unread + (outcome,), "open" if done else "broken", further)

    def circling(self, states):
        """The states, as keys of a dict, from which silent steps lead back to them, all ways staying among these."""
        ahead = {}
        for state in states:
            if self.is_silent(state):
                for _, further in self.steps(state):
                    ahead[state] = further
        circle = {}
        met = {}
        for start in states:
            state = start
            while state in ahead and state not in met:
                met[state] = start
                state = ahead[state]
            # Only what was met on this very way closes a circle that is not known yet.
            if state in met and met[state] == start:
                while state not in circle:
                    circle[state] = True
                    state = ahead[state]
        return circle


def told_anew(at, last, held, unread, deal, stand):
    """The same state with the place of a stand, its classes numbered anew."""
    place = stand[:2]
    numbers = numbers_of(held + held_at(place))
    return at, last, tuple([numbers.get(value, value) for value in held]), unread, deal, numbered(place, numbers)


def is_same_state(program, sender, value):
    """Whether the value has the form of a same state, reached or not."""
    if not isinstance(value, tuple) or len(value) != 6:
        return False
    at, last, held, unread, deal, place = value
    if not is_count(at) or at > len(sender.lines) or deal not in ("fresh", "open", "broken"):
        return False
    if not isinstance(held, tuple) or len(held) != len(sender.registers):
        return False
    if not all([one is None or is_count(one) or one in sender.parameters for one in held]):
        return False
    known = [answer for command in sender.book for answer in sender.book.answers(command)] + list(RESERVED)
    if last is not None and last not in known:
        return False
    if not isinstance(unread, tuple) or len(unread) > MAX_WINDOW or not all([answer in known for answer in unread]):
        return False
    return is_place(program, place, deal) and is_numbered(held + held_at(place))
