"""Stands of programs, and the lists of items that are forced there."""

from skipahead.ahead.front import Front, all_fates, last_uses
from skipahead.ahead.spots import Spots, stand_at
from skipahead.base.counts import is_count, need_window
from skipahead.base.items import MARK, is_items
from skipahead.errors import InvalidItem, InvalidOperation, InvalidStand
from skipahead.line.facts import choices_of, need_facts
from skipahead.plain.moves import moves_of
from skipahead.plain.places import is_end, is_held, is_numbered, is_work_line
from skipahead.plain.programs import need_program

MAX_FATES = 3000


def first_stand(program):
    """The stand at the beginning of a run."""
    need_program(program)
    return moves_of(program).begun()


def is_stand(program, value):
    """Whether the value has the form of a stand."""
    need_program(program)
    if is_end(value):
        return True
    if not isinstance(value, tuple) or len(value) != 3:
        return False
    line, held, deal = value
    if not is_held(program, held) or not is_numbered(held):
        return False
    if deal == "broken":
        return is_broken_line(program, line)
    return (deal == "fresh" or deal == "open") and is_work_line(program, line, deal)


def is_broken_line(program, value):
    """Whether the value is the number of a line with a mark, behind which in a broken deal a command is tried."""
    if not is_count(value) or value >= len(program.lines) or program.lines[value] != MARK:
        return False
    return moves_of(program).goes_on(value)


def thing_at(program, stand):
    """The thing at a stand."""
    need_program(program)
    need_stand(program, stand)
    return moves_of(program).thing(stand)


def fates(program, stand, items, *, facts=None):
    """All fates of a right list, ascending."""
    need_list(program, stand, items)
    need_facts(program.book, facts)
    need_front(program, stand, items, facts)
    deal = stand[2] if len(stand) == 3 else "fresh"
    for fate in all_fates(choices_of(program.book, facts), deal, items):
        yield fate


def stand_behind(program, stand, items, fate):
    """The stand of the program behind a list and one of its fates."""
    need_list(program, stand, items)
    return stand_at(spot_behind(Spots(program, stand, choices_of(program.book, None)), items, fate))


def is_right(program, stand, items, *, facts=None):
    """Whether a list is right."""
    need_list(program, stand, items)
    need_facts(program.book, facts)
    return right_front(program, stand, items, facts) is not None


def next_item(program, stand, items, *, facts=None):
    """The item that is forced behind a right list, with the first arguments, or None."""
    need_list(program, stand, items)
    need_facts(program.book, facts)
    return need_front(program, stand, items, facts).next_forced()


def forced_list(program, stand, *, window, facts=None):
    """The forced list of a stand."""
    need_program(program)
    need_stand(program, stand)
    need_window(window)
    need_facts(program.book, facts)
    front = front_at(program, stand, facts)
    front.grow(window)
    return tuple(front.listed)


def need_stand(program, stand):
    """Refuses what is no stand of the program."""
    if not is_stand(program, stand):
        raise InvalidStand("not a stand of the program")


def need_list(program, stand, items):
    """Refuses what is no program, no stand of it, or no list for the stand."""
    need_program(program)
    need_stand(program, stand)
    if not is_items(program.book, items):
        raise InvalidItem("not a tuple of items, each index that of an earlier item with a command")
    for item in items:
        if item != MARK and any([isinstance(name, str) and name not in program.registers for name in item[2]]):
            raise InvalidItem(f"a name in an item is no register: {item!r}")


def spot_behind(spots, items, fate):
    """The spot behind a list and one of its fates."""
    spot = spots.walked(items, fate)
    if spot is None:
        raise InvalidOperation("not a fate of the list, or an item of it is not right")
    return spot


def right_front(program, stand, items, facts):
    """The front behind a list, or None if it is not right."""
    front = Front(Spots(program, stand, choices_of(program.book, facts)), last_uses(items), MAX_FATES)
    for item in items:
        if not front.fits_all(item):
            return None
        front.take_in(item)
    return front


def need_front(program, stand, items, facts):
    """The front behind a list; refuses one that is not right."""
    front = right_front(program, stand, items, facts)
    if front is None:
        raise InvalidOperation("the list is not right")
    return front


def front_at(program, stand, facts):
    """The front at a stand, behind the empty list, to which forced items are added."""
    return Front(Spots(program, stand, choices_of(program.book, facts)), {}, MAX_FATES)
