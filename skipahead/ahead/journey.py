"""Where a forward run is, wait by wait."""

from skipahead.base.items import MARK
from skipahead.plain.moves import moves_of


class Leg:
    """What was sent at a stand."""

    def __init__(self, spot, sources, plan):
        self.spot = spot
        # The index on the line of the item whose value is that of a class at the stand.
        self.sources = sources
        self.plan = plan
        # How many items of the list were taken, and how many entries the work had then.
        self.many = 0
        self.depth = 0


class Journey:
    """The legs of a forward run, with the wire down which it sends; behind each leg but the last one it waited."""

    def __init__(self, plans, wire):
        self.plans = plans
        self.wire = wire
        self.legs = []

    def copied(self):
        """An independent journey with the same legs."""
        journey = Journey(self.plans, self.wire.copied())
        journey.legs = list(self.legs)
        return journey

    def standing(self):
        """Whether the run is waiting, paused or ended."""
        leg = self.legs[-1]
        if leg.many < len(leg.plan.listed):
            return "paused"
        return "ended" if leg.plan.told[0] == "ends" else "waiting"

    def set_out(self):
        """Sends the first list."""
        self._send_list(moves_of(self.plans.code).begun(), {})

    def go_on(self, many):
        """Waits so many times, or fewer if the run ends or pauses sooner, and sends a list behind each wait."""
        left = many
        while left > 0 and self.standing() == "waiting":
            self._wait()
            left = left - 1

    def take_back(self, many):
        """Takes back the last waits and returns how many are left."""
        left = len(self.legs) - 1 - many
        self.return_to(left + 1, len(self.wire.tape.taken) - sum([leg.many for leg in self.legs[left + 1:]]))
        return left

    def return_to(self, legs, items):
        """Takes back all but so many legs and so many items."""
        self.wire.take_back(len(self.wire.tape.taken) - items)
        del self.legs[legs:]

    def _wait(self):
        leg = self.legs[-1]
        said = self.wire.tape.said
        begin = len(said) - leg.many
        stand, values = leg.plan.turn(tuple(said[begin:]))
        self._send_list(stand, sources_behind(values, leg.sources, begin))

    def _send_list(self, stand, sources):
        plan = self.plans.plan_at(stand)
        leg = Leg(stand, sources, plan)
        begin = len(self.wire.tape.taken)
        for item, told in zip(plan.listed, plan.told_arguments):
            if item == MARK:
                self.wire.pass_mark()
            elif self.wire.pass_call(on_line(item, told, sources, begin) if told else item) is None:
                break
            leg.many = leg.many + 1
        leg.depth = len(self.wire.tape.entries)
        self.legs.append(leg)


def sources_behind(values, sources, begin):
    """The index on the line for each class behind a list, which begins there and was sent with other sources."""
    return {number: begin + value if value >= 0 else sources[-1 - value] for number, value in enumerate(values)}


def on_line(item, told, sources, begin):
    """A command of a list as it is told on the line, where the list has this index and its arguments give this."""
    arguments = []
    for value in told:
        if isinstance(value, int):
            value = begin + value if value >= 0 else sources[-1 - value]
        arguments.append(value)
    return item[0], item[1], tuple(arguments)
