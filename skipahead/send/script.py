"""The lines of a sender, with the places of registers worked out."""

from skipahead.base.coding import lines_on_to
from skipahead.plain.moves import put

SENDS = ("send", "mark")


class Script:
    """What a sender does at its lines. What its registers hold stands in a tuple; what stands for a value is free."""

    def __init__(self, sender):
        self.code = sender.lines
        self.slots = {name: slot for slot, name in enumerate(sender.registers)}
        self.initial = tuple([name if name in sender.parameters else None for name in self.slots])
        # Of each line that sends a command: the command, the places of what it is sent with, the place of the item.
        self.calls = {
            at: (line[1], [self.slots[name] for name in line[2]], self.slots.get(line[3]))
            for at, line in enumerate(self.code) if line[0] == "send"
        }
        # The first word of each line; the end behind the last line gives the result None.
        self.words = [line[0] for line in self.code] + ["give"]
        # Whether a run could come to a line again with nothing sent, or no mark, in between.
        sent, marked = lines_on_to(self.code, SENDS)
        self.risky = [not (one and other) for one, other in zip(sent, marked)] + [False]
        self.reads = reads_from(self.code, self.risky)

    def quiet(self, at, last, held):
        """The next line, the last answer and what registers hold behind a jump or a copy."""
        line = self.code[at]
        if line[0] == "go":
            return line[1], last, held
        if line[0] == "if":
            return line[2] if line[1] == last else at + 1, last, held
        value = None if line[2] is None else held[self.slots[line[2]]]
        return at + 1, last, put(held, self.slots[line[1]], value)


def script_of(sender):
    """The script of a sender, which keeps it."""
    if sender._script is None:
        sender._script = Script(sender)
    return sender._script


def reads_from(code, risky):
    """How many lines from each one on read, one behind another; of risky ones each is told alone."""
    many = [0 for _ in code] + [0]
    for at in reversed(range(len(code))):
        if code[at] == ("read",):
            many[at] = 1 if risky[at] else many[at + 1] + 1
    return many
