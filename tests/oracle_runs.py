"""Forward runs and runs of senders with rows, worked out anew and slowly from the words of the document."""

from tests.model import MARK
from tests.oracle import BadRow, Lists, Walk, line_of


class ForwardModel:
    """What a forward run with a row comes to, wait by wait."""

    def __init__(self, program, row, window, facts=None):
        self.program = program
        self.row = row
        self.window = window
        self.facts = facts
        self.items, self.outcomes = [], []
        self.used = 0
        walk = Walk(program)
        walk.to_stand()
        # Behind each wait: the stand, the list, the paper, the state, how many items and how many entries there were.
        self.told = []
        self.send(walk.stand(), dict(walk.held))

    def line(self):
        return line_of(self.items, self.outcomes)

    def on_line(self, item, begin, values):
        if item == MARK:
            return MARK
        return item[:2] + (tuple(
            None if one is None else values[one] if isinstance(one, str) else begin + one for one in item[2]),)

    def send(self, stand, values):
        """Sends the list of a stand, whose registers hold these values on the line."""
        lists = Lists(self.program, stand, self.facts)
        listed = lists.forced_list(self.window)
        begin = len(self.items)
        whole = True
        for item in listed:
            further = self.on_line(item, begin, values)
            outcome = None
            if item != MARK and self.line().deal != "broken":
                if self.used == len(self.row):
                    whole = False
                    break
                outcome = self.row[self.used]
                self.used += 1
                if outcome not in lists.choices[item[1]]:
                    raise BadRow(outcome)
            self.items.append(further)
            self.outcomes.append(outcome)
        paper = lists.paper(self.window)
        state = "paused" if not whole else "ended" if paper[0] == "ends" else "waiting"
        line = self.line()
        self.told.append((stand, listed, paper, state, len(self.items), len(line.work)))
        if state == "waiting":
            walk, _ = lists.behind(listed, line.replies[begin:])
            if isinstance(walk, tuple):
                self.next_one = (("end", walk[0]), {})
            else:
                held = {}
                for name, value in walk.held.items():
                    if isinstance(value, tuple):
                        at = list(stand[1]).index(value[1]) if value[0] == "class" else None
                        value = begin + value[1] if at is None else values[self.program.registers[at]]
                    held[name] = value
                self.next_one = (walk.stand(), held)

    def wait(self):
        self.send(*self.next_one)


class SenderModel:
    """What a run of a sender with a row comes to, until it goes on no more; at each wait how far it was."""

    def __init__(self, sender, row, window, most_waits=10 ** 9):
        self.lines = sender.lines
        self.items, self.outcomes = [], []
        held = {name: name if name in sender.parameters else None for name in sender.registers}
        at, last, read, come, used = 0, None, 0, 0, 0
        seen = []
        waits = []
        waited = False
        while True:
            model = line_of(self.items, self.outcomes)
            self.work, self.replies = model.work, model.replies
            self.held = {name: model.origin(value) for name, value in held.items()}
            self.at, self.last, self.unread, self.deal = at, last, len(self.items) - read, model.deal
            self.reason, self.result, self.thing = None, None, None
            line = self.lines[at] if at < len(self.lines) else ("give", None)
            if line[0] in ("give", "last"):
                self.state, self.result = "ended", last if line == ("last",) else line[1]
                self.thing = ("end", self.result)
                break
            now = (len(self.work), at, last, self.held, self.replies[read:], self.deal)
            if line[0] in ("send", "mark") and self.unread >= window:
                self.reason = "full"
            elif line == ("read",) and self.unread == 0:
                self.reason = "empty"
            elif now in seen and not waited:
                self.reason = "round"
            if self.reason:
                self.state, self.thing = "stopped", ("stop", self.reason)
                break
            if not waited:
                seen.append(now)
            waited = False
            if line == ("read",) and read == come:
                if len(waits) == most_waits:
                    self.state = "waiting"
                    break
                waits.append(len(self.work))
                come = len(self.items)
                waited = True
                continue
            if line[0] == "send":
                arguments = tuple(held[name] for name in line[2])
                outcome = None
                if self.deal != "broken":
                    if used == len(row):
                        self.state = "paused"
                        self.thing = ("try", line[1], tuple(model.origin(one) for one in arguments))
                        break
                    outcome, used = row[used], used + 1
                    if outcome not in sender.book.outcomes(line[1]):
                        raise BadRow(outcome)
                if line[3] is not None:
                    held[line[3]] = len(self.items)
                self.items.append(("send", line[1], arguments))
                self.outcomes.append(outcome)
            elif line == MARK:
                self.items.append(MARK)
                self.outcomes.append(None)
            elif line == ("read",):
                last = self.replies[read]
                read += 1
            elif line[0] == "copy":
                held[line[1]] = None if line[2] is None else held[line[2]]
            at = line[1] if line[0] == "go" else line[2] if line[0] == "if" and last == line[1] else at + 1
        self.waits = len(waits)
        self.progress = tuple(waits) + (len(self.work),)
        self.used = used
