"""Where a run of a sender is, wait by wait."""

from skipahead.base.coding import ENDS, result_at
from skipahead.plain.moves import put


class Hand:
    """What a sender has sent down a wire and read, and how it stood at each wait; many is the window."""

    def __init__(self, script, wire, many):
        self.script = script
        self.wire = wire
        self.many = many
        # The next line, the last answer, and what the registers hold: a parameter, the index of an item, or None.
        self.here = 0
        self.heard = None
        self.holds = script.initial
        # How many answers were read, and how many have come.
        self.used = 0
        self.come = 0
        self.phase = "going"
        self.cause = None
        # How it was at each risky line, with the number of entries of work then, in the order of time.
        self.seen = {}
        # How it was ahead of each wait, and how many entries the work had behind 0, 1, .. waits.
        self.rests = []
        self.depths = []

    def copied(self):
        """An independent hand that has come as far."""
        hand = Hand(self.script, self.wire.copied(), self.many)
        hand.here = self.here
        hand.heard = self.heard
        hand.holds = self.holds
        hand.used = self.used
        hand.come = self.come
        hand.phase = self.phase
        hand.cause = self.cause
        hand.seen = {key: True for key in self.seen}
        hand.rests = list(self.rests)
        hand.depths = list(self.depths)
        return hand

    def final(self):
        """The result, or None as long as the run has not ended."""
        return result_at(self.script.code, self.here, self.heard) if self.phase == "ended" else None

    def origin_in(self, name):
        """The origin of what a register holds."""
        return self.wire.tape.origin_of(self.holds[self.script.slots[name]])

    def unread_now(self):
        """The answers that it has not read."""
        return tuple(self.wire.tape.said[self.used:])

    def set_out(self):
        """Goes on until the run would have to wait, ends, stops or pauses."""
        words = self.script.words
        risky = self.script.risky
        self.phase = "going"
        while self.phase == "going":
            word = words[self.here]
            if word == "send" or word == "mark":
                self._send(word)
            elif word == "read":
                self._read()
            elif word in ENDS:
                self.phase = "ended"
            elif not risky[self.here] or self._is_new():
                self.here, self.heard, self.holds = self.script.quiet(self.here, self.heard, self.holds)
        self.depths.append(len(self.wire.tape.entries))

    def go_on(self, many):
        """Waits so many times, or fewer if the run goes on no more."""
        left = many
        while left > 0 and self.phase == "waiting":
            self.wait_once()
            left = left - 1

    def wait_once(self):
        """Waits, and goes on as at the beginning."""
        many = len(self.wire.tape.taken)
        self.rests.append((self.here, self.heard, self.holds, self.used, self.come, many, len(self.seen)))
        self.come = many
        self._take_answers(1)
        self.set_out()

    def take_back(self, many):
        """Takes back the last waits, with all that came behind them, and returns how many are left."""
        left = len(self.rests) - many
        if many > 0:
            self.here, self.heard, self.holds, self.used, self.come, items, lines = self.rests[left]
            self.wire.take_back(len(self.wire.tape.taken) - items)
            if len(self.seen) > lines:
                self.seen = {key: True for key in list(self.seen)[:lines]}
            del self.rests[left:]
            del self.depths[left + 1:]
            self.phase = "waiting"
            self.cause = None
        return left

    def next_arguments(self):
        """What it sends the command of its line with."""
        return tuple([self.holds[slot] for slot in self.script.calls[self.here][1]])

    def _send(self, word):
        many = len(self.wire.tape.taken)
        if many - self.used >= self.many:
            self._stop("full")
            return
        if self.script.risky[self.here] and not self._is_new():
            return
        if word == "mark":
            self.wire.pass_mark()
        else:
            command, slots, target = self.script.calls[self.here]
            item = ("send", command, tuple([self.holds[slot] for slot in slots]) if slots else ())
            if self.wire.pass_call(item) is None:
                self.phase = "paused"
                return
            if target is not None:
                self.holds = put(self.holds, target, many)
        self.here = self.here + 1

    def _read(self):
        if self.used == len(self.wire.tape.said):
            self._stop("empty")
        elif not self.script.risky[self.here] or self._is_new():
            if self.used < self.come:
                self._take_answers(min(self.script.reads[self.here], self.come - self.used))
            else:
                self.phase = "waiting"

    def _take_answers(self, many):
        """Reads so many answers, which have come, at as many lines."""
        self.used = self.used + many
        self.heard = self.wire.tape.said[self.used - 1]
        self.here = self.here + many

    def _stop(self, why):
        self.phase = "stopped"
        self.cause = why

    def _is_new(self):
        """Whether all is not as it was at this line before; notes how it is, or stops."""
        tape = self.wire.tape
        origins = tuple([tape.origin_of(value) for value in self.holds])
        key = (len(tape.entries), self.here, self.heard, origins, self.unread_now(), tape.mood)
        if key in self.seen:
            self._stop("round")
            return False
        self.seen[key] = True
        return True
