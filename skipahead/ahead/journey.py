"""Where a forward run is, wait by wait."""

from skipahead.ahead.lists import forced_front
from skipahead.ahead.spots import stand_at
from skipahead.ahead.waits import paper_behind
from skipahead.base.items import MARK
from skipahead.plain.moves import END, moves_of
from skipahead.plain.places import numbers_of


class Plans:
    """What is sent at each stand of a program, with the paper about it; each is worked out once."""

    def __init__(self, code, window, facts):
        self.code = code
        self.most = window
        self.restriction = facts
        self.known = {}

    def plan_at(self, stand):
        """The spots of a stand, its list, and the paper."""
        if stand not in self.known:
            front = forced_front(self.code, stand, self.most, self.restriction)
            self.known[stand] = (front.spots, tuple(front.listed), paper_behind(front))
        return self.known[stand]


class Leg:
    """What was sent at a stand."""

    def __init__(self, spot, sources, listed, told):
        self.spot = spot
        # The index on the line of the item whose value is that of a class at the stand.
        self.sources = sources
        self.listed = listed
        self.told = told
        # How many items of the list were taken, and how many entries the work had then.
        self.many = 0
        self.depth = 0


class Journey:
    """The legs of a forward run, with the wire down which it sends; behind each leg but the last one it waited."""

    def __init__(self, plans, wire):
        self.plans = plans
        self.wire = wire
        self.legs = []

    def copied(self):
        """An independent journey with the same legs."""
        journey = Journey(self.plans, self.wire.copied())
        journey.legs = list(self.legs)
        return journey

    def standing(self):
        """Whether the run is waiting, paused or ended."""
        leg = self.legs[-1]
        if leg.many < len(leg.listed):
            return "paused"
        return "ended" if leg.told[0] == "ends" else "waiting"

    def set_out(self):
        """Sends the first list."""
        self._send_list(moves_of(self.plans.code).begun(), {})

    def go_on(self, many):
        """Waits so many times, or fewer if the run ends or pauses sooner, and sends a list behind each wait."""
        left = many
        while left > 0 and self.standing() == "waiting":
            self._wait()
            left = left - 1

    def take_back(self, many):
        """Takes back the last waits and returns how many are left."""
        left = len(self.legs) - 1 - many
        self.wire.take_back(sum([leg.many for leg in self.legs[left + 1:]]))
        del self.legs[left + 1:]
        return left

    def _wait(self):
        leg = self.legs[-1]
        begin = len(self.wire.tape.taken) - leg.many
        spots = self.plans.plan_at(leg.spot)[0]
        spot = spots.walked(leg.listed, tuple(self.wire.tape.said[begin:]))
        stand = stand_at(spot)
        sources = {}
        if stand[0] != END:
            for value, number in numbers_of(spot[0][1]).items():
                sources[number] = begin + value if value >= 0 else leg.sources[-1 - value]
        self._send_list(stand, sources)

    def _send_list(self, stand, sources):
        _, listed, told = self.plans.plan_at(stand)
        leg = Leg(stand, sources, listed, told)
        begin = len(self.wire.tape.taken)
        for item in listed:
            if item == MARK:
                self.wire.pass_mark()
            elif self.wire.pass_call(self._on_line(item, leg, begin)) is None:
                break
            leg.many = leg.many + 1
        leg.depth = len(self.wire.tape.entries)
        self.legs.append(leg)

    def _on_line(self, item, leg, begin):
        """The command of a list as it is told on the line, where the list has this index."""
        arguments = []
        for argument in item[2]:
            if isinstance(argument, str):
                value = leg.spot[1][self.plans.code.registers.index(argument)]
                arguments.append(leg.sources.get(value, value))
            else:
                arguments.append(argument if argument is None else begin + argument)
        return "send", item[1], tuple(arguments)
