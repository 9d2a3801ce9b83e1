"""A line with what decides the outcomes on it."""

from skipahead.errors import InvalidRow, TooMany
from skipahead.line.servers import Server, table_of
from skipahead.line.tape import Tape


class Wire:
    """What a server, or a row, has taken from a line: at most so many items, or any number if most is None."""

    def __init__(self, choices, server, most):
        self.choices = choices
        self.source = server
        self.most = most
        self.tape = Tape()
        # Of a server: its table, and its state at the beginning and behind each entry of the work.
        self.rules = table_of(server) if isinstance(server, Server) else None
        self.states_so_far = [server.start] if isinstance(server, Server) else []

    def copied(self):
        """An independent wire with the same items."""
        wire = Wire(self.choices, self.source, self.most)
        wire.tape = self.tape.copied()
        wire.states_so_far = list(self.states_so_far)
        return wire

    def lacks(self):
        """Whether a command that is sent now would be tried, and the row has no outcome for it."""
        if self.rules is not None or self.tape.mood == "broken":
            return False
        return self.tape.many_tried >= len(self.source)

    def pass_mark(self):
        """Lets the server take a mark, and returns the answer."""
        tape = self.tape
        if len(tape.taken) == self.most:
            raise TooMany(self.most)
        if tape.mood == "open" and self.rules is not None:
            self.states_so_far.append(self.rules[self.states_so_far[-1]]["kept"])
        return tape.take_mark()

    def pass_call(self, item):
        """Lets the server take a command, and returns the answer; None if the row lacks an outcome for it."""
        tape = self.tape
        if tape.mood == "broken":
            if len(tape.taken) == self.most:
                raise TooMany(self.most)
            return tape.skip(item)
        outcome = None
        if self.rules is None:
            if tape.many_tried >= len(self.source):
                return None
            outcome = self.source[tape.many_tried]
            if outcome not in self.choices[item[1]]:
                raise InvalidRow(f"not an outcome of the command {item[1]} here: {outcome}")
        if len(tape.taken) == self.most:
            raise TooMany(self.most)
        if self.rules is not None:
            outcome, state = self.rules[self.states_so_far[-1]][item[1]]
            self.states_so_far.append(state)
        return tape.take_tried(item, outcome)

    def take_back(self, many):
        """Takes back the last items and returns how many are left."""
        left = self.tape.take_back(many)
        if self.rules is not None:
            del self.states_so_far[len(self.tape.entries) + 1:]
        return left
