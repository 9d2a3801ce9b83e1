"""Spots: what has come of a list for a stand and one of its fates.

A spot is (place, deal, done). The place is that of the program; a register holds there the name of a parameter, the
index of an item of the list, a number below 0 for a class of the stand, or None. The deal is that of the line. Done
are the indexes of the items that were done, at least of those that can still matter.
"""

from skipahead.base.items import MARK
from skipahead.plain.moves import END, moves_of
from skipahead.plain.places import numbered, numbers_of


class Spots:
    """The spots of the lists for a stand of a program, with the outcomes that each command can have."""

    def __init__(self, program, stand, choices):
        self.moves = moves_of(program)
        self.choices = choices
        if stand[0] == END:
            held = [None for _ in program.registers]
            self.begin = (stand, "fresh", ())
        else:
            held = [-1 - value if isinstance(value, int) else value for value in stand[1]]
            self.begin = ((stand[0], tuple(held)), stand[2], ())
        # What an argument gives that is a register.
        self.given = {name: value for name, value in zip(program.registers, held)}

    def gives(self, argument, done):
        """What an argument of an item gives if these items were done."""
        if isinstance(argument, int):
            return argument if argument in done else None
        return None if argument is None else self.given[argument]

    def fits(self, spot, item):
        """Whether an item is right at a spot."""
        place, deal, done = spot
        if deal == "broken":
            return True
        thing = self.moves.thing(place)
        if item == MARK or thing[0] != "try":
            return item == thing
        return thing[1] == item[1] and thing[2] == tuple([self.gives(argument, done) for argument in item[2]])

    def behind(self, spot, item, index):
        """The pairs of an answer to an item, which is right and has this index, and the spot behind it."""
        place, deal, done = spot
        if item == MARK:
            answer = "undone" if deal == "broken" else "kept"
            further = place if place[0] == END else self.moves.stand_marked(place[0], place[1], answer)
            return [(answer, (further[:2], "fresh", done))]
        if deal == "broken":
            return [("skipped", spot)]
        return [(outcome, self._behind_try(place, outcome, done, index)) for outcome in self.choices[item[1]]]

    def _behind_try(self, place, outcome, done, index):
        further = self.moves.stand_tried(place[0], place[1], outcome, index)
        if outcome == "failed":
            return further[:2], "broken", done
        return further[:2], "open", done + (index,)

    def walked(self, items, fate):
        """The spot behind a list and a fate, or None if it is no fate of it, or some item is not right."""
        if not isinstance(fate, tuple) or len(fate) != len(items):
            return None
        spot = self.begin
        for index, item in enumerate(items):
            if not self.fits(spot, item):
                return None
            told = [further for answer, further in self.behind(spot, item, index) if answer == fate[index]]
            if not told:
                return None
            spot = told[0]
        return spot

    def forced(self, spots):
        """The item that is right at all of these spots and the thing at one, with the first arguments, or None."""
        whole = [spot for spot in spots if spot[1] != "broken"]
        if not whole:
            # Every item is right in a broken deal, but only a mark is the thing.
            return MARK if any([spot[0][0] != END for spot in spots]) else None
        things = [self.moves.thing(spot[0]) for spot in whole]
        if things[0][0] == END or any([thing[:2] != things[0][:2] for thing in things]):
            return None
        if things[0] == MARK:
            return MARK
        arguments = []
        for at in range(len(things[0][2])):
            wanted = [(thing[2][at], spot[2]) for thing, spot in zip(things, whole)]
            arguments.extend(self._first_argument(wanted))
            if len(arguments) == at:
                return None
        return "send", things[0][1], tuple(arguments)

    def _first_argument(self, wanted):
        """The first argument that gives each value where these items were done, in a list that is empty for none."""
        values = {value: True for value, _ in wanted}
        told = [value for value in values if value is not None]
        if not told:
            return [None]
        if len(told) > 1:
            return []
        if isinstance(told[0], int) and told[0] >= 0:
            # The index must give nothing where the register holds nothing.
            return [] if any([value is None and told[0] in done for value, done in wanted]) else told
        return [] if None in values else [name for name in self.given if self.given[name] == told[0]][:1]

    def agree(self, spot, other):
        """Whether two spots agree."""
        if spot[0][0] == END and other[0][0] == END:
            return spot[0] == other[0]
        return self.forced([spot, other]) is not None


def stand_at(spot):
    """The stand of the program at a spot."""
    place, deal, _ = spot
    if place[0] == END:
        return place
    line, held = numbered(place, numbers_of(place[1]))
    return line, held, deal
