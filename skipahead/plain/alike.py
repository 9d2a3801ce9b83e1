"""Programs that are alike, and papers that show whether they are."""

from skipahead.base.items import MARK
from skipahead.base.search import is_closed, reached, row_to
from skipahead.errors import InvalidProgram, InvalidStand
from skipahead.plain.moves import END, NEW, Moves
from skipahead.plain.places import held_at, is_numbered, is_place, numbered, numbers_of
from skipahead.plain.programs import Program, need_program
from skipahead.plain.runs import behind, is_row_of

MAX_PAIRS = 3000


class Pairs:
    """The pair states of two programs, and the steps from each to those behind it."""

    def __init__(self, one, other):
        self.choices = {command: one.book.outcomes(command) for command in one.book}
        self.sides = (Moves(one), Moves(other))

    def first(self):
        """The first pair state."""
        return paired(self.sides[0].begun(), self.sides[1].begun())

    def goes_well(self, state):
        """Whether both programs go on alike at a pair state, or end alike."""
        return self.sides[0].thing(state[0]) == self.sides[1].thing(state[1])

    def steps(self, state):
        """The pairs of an outcome, or None, and the state behind it."""
        thing = self.sides[0].thing(state[0])
        if thing[0] == END or not self.goes_well(state):
            return []
        if thing == MARK:
            one, other = [side.stand_marked(place[0], place[1], "kept") for side, place in zip(self.sides, state)]
            return [(None, paired(one, other))]
        return [(outcome, self._behind(state, outcome)) for outcome in self.choices[thing[1]]]

    def _behind(self, state, outcome):
        stands = [side.stand_tried(place[0], place[1], outcome, NEW) for side, place in zip(self.sides, state)]
        return paired(self.sides[0].stand_worked(stands[0]), self.sides[1].stand_worked(stands[1]))


def paired(stand, further):
    """The pair state of two stands, neither of them in a broken deal."""
    numbers = numbers_of(held_at(stand) + held_at(further))
    deal = "fresh"
    for one in (stand, further):
        if one[0] != END:
            deal = one[2]
    return numbered(stand, numbers), numbered(further, numbers), deal


def are_alike(one, other):
    """Whether both programs have the same work and the same result with every server."""
    return alike_paper(one, other)[0] == "alike"


def alike_paper(one, other):
    """A paper that shows whether both programs are alike, as short as possible."""
    need_both(one, other)
    pairs = Pairs(one, other)
    found = reached(pairs, pairs.first(), MAX_PAIRS)
    for state in found:
        if not pairs.goes_well(state):
            return "parted", row_to(found, state)
    return "alike", tuple(sorted(found, key=lambda state: repr(state)))


def is_alike_paper(one, other, value):
    """Whether the value is a paper that shows whether both programs are alike."""
    need_both(one, other)
    if not isinstance(value, tuple) or len(value) != 2:
        return False
    if value[0] == "parted":
        return is_parting(one, other, value[1])
    if value[0] != "alike" or not isinstance(value[1], tuple):
        return False
    if not all([is_pair(one, other, state) for state in value[1]]):
        return False
    pairs = Pairs(one, other)
    return is_closed(pairs, pairs.first(), value[1])


def is_parting(one, other, value):
    """Whether the value is a row of both programs, behind which they differ."""
    return is_row_of(one, value) and is_row_of(other, value) and behind(one, value) != behind(other, value)


def first_pair(one, other):
    """The first pair state of two programs."""
    need_both(one, other)
    return Pairs(one, other).first()


def pairs_behind(one, other, state):
    """The tuple of the pair states behind one, ascending by their texts."""
    need_both(one, other)
    if not is_pair(one, other, state):
        raise InvalidStand("not a pair state of both programs")
    found = {further: True for _, further in Pairs(one, other).steps(state)}
    return tuple(sorted(found, key=lambda further: repr(further)))


def is_pair(one, other, value):
    """Whether the value has the form of a pair state at which both programs can be."""
    if not isinstance(value, tuple) or len(value) != 3:
        return False
    place, further, deal = value
    if not is_place(one, place, deal) or not is_place(other, further, deal):
        return False
    if not is_numbered(held_at(place) + held_at(further)):
        return False
    return deal == "fresh" or (deal == "open" and not (place[0] == END and further[0] == END))


def need_both(one, other):
    """Refuses what are not two programs with equal books and the same parameters."""
    need_program(one)
    if not isinstance(other, Program) or other.book != one.book or other.parameters != one.parameters:
        raise InvalidProgram("not a program with an equal book and the same parameters")
