"""Waits that are needed, and the papers that show it."""

from skipahead.ahead.lists import forced_front, need_list, need_stand, spot_behind
from skipahead.ahead.spots import Spots
from skipahead.base.counts import need_window
from skipahead.errors import InvalidOperation
from skipahead.line.facts import choices_of, need_facts
from skipahead.plain.moves import END
from skipahead.plain.programs import need_program


def wait_paper(program, stand, *, window, facts=None):
    """The paper that shows why a wait is needed behind the forced list of a stand, or that none is."""
    need_ahead(program, stand, window, facts)
    return paper_behind(forced_front(program, stand, window, facts))


def is_wait_paper(program, stand, value, *, window, facts=None):
    """Whether the value is a paper that shows why a wait is needed, or that none is."""
    need_ahead(program, stand, window, facts)
    front = forced_front(program, stand, window, facts)
    paper = paper_behind(front)
    if paper[0] != "fork" or not isinstance(value, tuple) or len(value) != 3 or value[0] != "fork":
        return value == paper
    spots = [front.spots.walked(front.listed, fate) for fate in value[1:]]
    return None not in spots and not front.spots.agree(spots[0], spots[1])


def do_agree(program, stand, items, fate, other):
    """Whether two fates of a list agree."""
    need_list(program, stand, items)
    spots = Spots(program, stand, choices_of(program.book, None))
    return spots.agree(spot_behind(spots, items, fate), spot_behind(spots, items, other))


def needs_wait(program, stand, *, window, facts=None):
    """Whether a wait is needed behind the forced list of a stand."""
    return wait_paper(program, stand, window=window, facts=facts)[0] != "ends"


def need_ahead(program, stand, window, facts):
    """Refuses what does not tell a program, a stand of it, a window and facts."""
    need_program(program)
    need_stand(program, stand)
    need_window(window)
    need_facts(program.book, facts)


def paper_behind(front):
    """The paper about the forced list of a front."""
    if front.next_forced() is not None:
        return ("full",)
    places = list({spot[0]: True for spot in front.least})
    if len(places) == 1 and places[0][0] == END:
        return "ends", places[0][1]
    return least_fork(front)


def least_fork(front):
    """The paper with the least fate of a front that does not agree with some other one, and the least such other."""
    views = {}
    for spot, fate in front.least.items():
        view = view_from(front, spot)
        if view not in views or fate < views[view][0]:
            views[view] = (fate, spot)
    # What is seen from a spot decides with which others it agrees, so the least fate of each view is enough.
    ranked = sorted([views[view] for view in views])
    for fate, spot in ranked:
        for other, further in ranked:
            if not front.spots.agree(spot, further):
                return "fork", fate, other
    raise InvalidOperation("all fates agree, so this is no fork")


def view_from(front, spot):
    """What of a spot decides with which other ones it agrees."""
    place, deal, done = spot
    thing = front.spots.moves.thing(place)
    return (thing, deal) if deal == "broken" else (thing, done)
