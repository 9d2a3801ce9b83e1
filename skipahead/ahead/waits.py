"""Waits that are needed, and the papers that show it."""

from skipahead.ahead.lists import front_at, need_list, need_stand, spot_behind
from skipahead.ahead.papers import paper_behind
from skipahead.ahead.spots import Spots
from skipahead.base.counts import need_window
from skipahead.line.facts import choices_of, need_facts
from skipahead.plain.programs import need_program


def wait_paper(program, stand, *, window, facts=None):
    """The paper that shows why a wait is needed behind the forced list of a stand, or that none is."""
    need_ahead(program, stand, window, facts)
    front = front_at(program, stand, facts)
    return paper_behind(front, front.grow(window))


def is_wait_paper(program, stand, value, *, window, facts=None):
    """Whether the value is a paper that shows why a wait is needed, or that none is."""
    need_ahead(program, stand, window, facts)
    front = front_at(program, stand, facts)
    paper = paper_behind(front, front.grow(window))
    if paper[0] != "fork" or not isinstance(value, tuple) or len(value) != 3 or value[0] != "fork":
        return value == paper
    spots = [front.spots.walked(front.listed, fate) for fate in value[1:]]
    return None not in spots and not front.spots.agree(spots[0], spots[1])


def do_agree(program, stand, items, fate, other):
    """Whether two fates of a list agree."""
    need_list(program, stand, items)
    spots = Spots(program, stand, choices_of(program.book, None))
    return spots.agree(spot_behind(spots, items, fate), spot_behind(spots, items, other))


def needs_wait(program, stand, *, window, facts=None):
    """Whether a wait is needed behind the forced list of a stand."""
    return wait_paper(program, stand, window=window, facts=facts)[0] != "ends"


def need_ahead(program, stand, window, facts):
    """Refuses what does not tell a program, a stand of it, a window and facts."""
    need_program(program)
    need_stand(program, stand)
    need_window(window)
    need_facts(program.book, facts)
