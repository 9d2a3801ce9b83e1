"""Where a run of a sender is, wait by wait."""

from skipahead.base.coding import ENDS, result_at
from skipahead.base.items import MARK
from skipahead.plain.moves import put
from skipahead.send.script import SENDS


class Hand:
    """What a sender has sent down a wire and read, and how it stood at each wait; many is the window."""

    def __init__(self, script, wire, many):
        self.script = script
        self.wire = wire
        self.many = many
        # The next line, the last answer, and what the registers hold: a parameter, the index of an item, or None.
        self.here = 0
        self.heard = None
        self.holds = script.initial
        # How many answers were read, and how many have come.
        self.used = 0
        self.come = 0
        self.phase = "going"
        self.cause = None
        # How it was at each line, with the number of entries of work then, in the order of time.
        self.seen = {}
        # How it was ahead of each wait, and how many entries the work had behind 0, 1, .. waits.
        self.rests = []
        self.depths = []

    def copied(self):
        """An independent hand that has come as far."""
        hand = Hand(self.script, self.wire.copied(), self.many)
        hand.here = self.here
        hand.heard = self.heard
        hand.holds = self.holds
        hand.used = self.used
        hand.come = self.come
        hand.phase = self.phase
        hand.cause = self.cause
        hand.seen = {key: True for key in self.seen}
        hand.rests = list(self.rests)
        hand.depths = list(self.depths)
        return hand

    def final(self):
        """The result, or None as long as the run has not ended."""
        return result_at(self.script.code, self.here, self.heard) if self.phase == "ended" else None

    def origin_in(self, name):
        """The origin of what a register holds."""
        return self.wire.tape.origin_of(self.holds[self.script.slots[name]])

    def unread_now(self):
        """The answers that it has not read."""
        return tuple(self.wire.tape.said[self.used:])

    def set_out(self):
        """Goes on until the run would have to wait, ends, stops or pauses."""
        self.phase = "going"
        while self.phase == "going":
            self._do_line()
        self.depths.append(len(self.wire.tape.entries))

    def go_on(self, many):
        """Waits so many times, or fewer if the run goes on no more."""
        left = many
        while left > 0 and self.phase == "waiting":
            self.wait_once()
            left = left - 1

    def wait_once(self):
        """Waits, and goes on as at the beginning."""
        many = len(self.wire.tape.taken)
        self.rests.append((self.here, self.heard, self.holds, self.used, self.come, many, len(self.seen)))
        self.come = many
        self._do_quiet()
        self.set_out()

    def take_back(self, many):
        """Takes back the last waits, with all that came behind them, and returns how many are left."""
        left = len(self.rests) - many
        if many > 0:
            self.here, self.heard, self.holds, self.used, self.come, items, lines = self.rests[left]
            self.wire.take_back(len(self.wire.tape.taken) - items)
            self.seen = {key: True for key in list(self.seen)[:lines]}
            del self.rests[left:]
            del self.depths[left + 1:]
            self.phase = "waiting"
            self.cause = None
        return left

    def next_sent(self):
        """The item that it sends at a line that sends one."""
        if self.here not in self.script.calls:
            return MARK
        command, slots, _ = self.script.calls[self.here]
        return "send", command, tuple([self.holds[slot] for slot in slots])

    def _do_line(self):
        word = self.script.word_at(self.here)
        if word in ENDS:
            self.phase = "ended"
            return
        self.cause = self._why_stop(word)
        if self.cause is not None:
            self.phase = "stopped"
        elif word in SENDS:
            self._send()
        elif word == "read" and self.used == self.come:
            self.phase = "waiting"
        else:
            self._do_quiet()

    def _why_stop(self, word):
        """Why the run stops at this line, or None; notes how it is there."""
        tape = self.wire.tape
        unread = len(tape.taken) - self.used
        if word in SENDS and unread >= self.many:
            return "full"
        if word == "read" and unread == 0:
            return "empty"
        origins = tuple([tape.origin_of(value) for value in self.holds])
        key = (len(tape.entries), self.here, self.heard, origins, self.unread_now(), tape.levels[-1][0])
        if key in self.seen:
            return "round"
        self.seen[key] = True
        return None

    def _send(self):
        item = self.next_sent()
        if self.wire.lacks(item):
            self.phase = "paused"
            return
        self.wire.pass_on(item)
        if item != MARK:
            target = self.script.calls[self.here][2]
            self.holds = put(self.holds, target, len(self.wire.tape.taken) - 1)
        self.here = self.here + 1

    def _do_quiet(self):
        said = None
        if self.script.word_at(self.here) == "read":
            said = self.wire.tape.said[self.used]
            self.used = self.used + 1
        self.here, self.heard, self.holds = self.script.quiet(self.here, self.heard, self.holds, said)
