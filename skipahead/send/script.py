"""The lines of a sender, with the places of registers worked out."""

from skipahead.plain.moves import put

SENDS = ("send", "mark")


class Script:
    """What a sender does at its lines. What its registers hold stands in a tuple; what stands for a value is free."""

    def __init__(self, sender):
        self.code = sender.lines
        self.slots = {name: slot for slot, name in enumerate(sender.registers)}
        self.initial = tuple([name if name in sender.parameters else None for name in self.slots])
        # Of each line that sends a command: the command, the places of what it is sent with, the place of the item.
        self.calls = {
            at: (line[1], [self.slots[name] for name in line[2]], self.slots.get(line[3]))
            for at, line in enumerate(self.code) if line[0] == "send"
        }

    def word_at(self, at):
        """The first word of a line; the end behind the last line gives the result None."""
        return "give" if at == len(self.code) else self.code[at][0]

    def quiet(self, at, last, held, said):
        """The next line, the last answer and what registers hold behind a line that sends nothing and does not end.

        The first answer that is not read is passed as said.
        """
        line = self.code[at]
        if line[0] == "go":
            return line[1], last, held
        if line[0] == "if":
            return line[2] if line[1] == last else at + 1, last, held
        if line[0] == "read":
            return at + 1, said, held
        value = None if line[2] is None else held[self.slots[line[2]]]
        return at + 1, last, put(held, self.slots[line[1]], value)
