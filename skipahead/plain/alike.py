"""Programs that are alike, and papers that show whether they are."""

from skipahead.base.search import are_ascending, by_text, explored, is_closed, keys_behind
from skipahead.errors import InvalidProgram, InvalidStand
from skipahead.plain.moves import END
from skipahead.plain.pairs import Pairs
from skipahead.plain.places import held_at, is_numbered, is_place
from skipahead.plain.programs import Program, need_program
from skipahead.plain.runs import behind, is_row_of

MAX_PAIRS = 3000


def are_alike(one, other):
    """Whether both programs have the same work and the same result with every server."""
    need_both(one, other)
    pairs = Pairs(one, other)
    return explored(pairs, pairs.first(), MAX_PAIRS)[1] is None


def alike_paper(one, other):
    """A paper that shows whether both programs are alike, as short as possible."""
    need_both(one, other)
    pairs = Pairs(one, other)
    known, row = explored(pairs, pairs.first(), MAX_PAIRS)
    if row is not None:
        return "parted", row
    return "alike", by_text(pairs, known)


def is_alike_paper(one, other, value):
    """Whether the value is a paper that shows whether both programs are alike."""
    need_both(one, other)
    if not isinstance(value, tuple) or len(value) != 2:
        return False
    if value[0] == "parted":
        return is_parting(one, other, value[1])
    if value[0] != "alike" or not isinstance(value[1], tuple):
        return False
    if not all([is_pair(one, other, state) for state in value[1]]):
        return False
    pairs = Pairs(one, other)
    if not are_ascending([repr(state) for state in value[1]]):
        return False
    return is_closed(pairs, pairs.first(), [pairs.key_of(state) for state in value[1]])


def is_parting(one, other, value):
    """Whether the value is a row of both programs, behind which they differ."""
    return is_row_of(one, value) and is_row_of(other, value) and behind(one, value) != behind(other, value)


def first_pair(one, other):
    """The first pair state of two programs."""
    need_both(one, other)
    pairs = Pairs(one, other)
    return pairs.shown(pairs.first())[1]


def pairs_behind(one, other, state):
    """The tuple of the pair states behind one, ascending by their texts."""
    need_both(one, other)
    if not is_pair(one, other, state):
        raise InvalidStand("not a pair state of both programs")
    pairs = Pairs(one, other)
    key = pairs.key_of(state)
    word, told = pairs.step(key)
    return by_text(pairs, list({further: True for further in keys_behind(pairs, key, word, told)}))


def is_pair(one, other, value):
    """Whether the value has the form of a pair state at which both programs can be."""
    if not isinstance(value, tuple) or len(value) != 3:
        return False
    place, further, deal = value
    if not is_place(one, place, deal) or not is_place(other, further, deal):
        return False
    if not is_numbered(held_at(place) + held_at(further)):
        return False
    return deal == "fresh" or (deal == "open" and not (place[0] == END and further[0] == END))


def need_both(one, other):
    """Refuses what are not two programs with equal books and the same parameters."""
    need_program(one)
    if not isinstance(other, Program) or other.book != one.book or other.parameters != one.parameters:
        raise InvalidProgram("not a program with an equal book and the same parameters")
