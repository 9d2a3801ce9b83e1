"""Papers that show why a wait is needed behind a forced list, or that none is."""

from skipahead.errors import InvalidOperation
from skipahead.plain.moves import END

FULL = ("full",)


def paper_behind(front, further):
    """The paper about the forced list of a front, behind which a further item is forced, or None."""
    if further is not None:
        return FULL
    places = list({spot[0]: True for spot in front.least})
    if len(places) == 1 and places[0][0] == END:
        return "ends", places[0][1]
    return least_fork(front)


def needs_wait_behind(front, further):
    """Whether a wait is needed behind the forced list of a front, behind which a further item is forced, or None."""
    if further is not None:
        return True
    places = list({spot[0]: True for spot in front.least})
    return len(places) > 1 or places[0][0] != END


def least_fork(front):
    """The paper with the least fate of a front that does not agree with some other one, and the least such other."""
    views = {}
    for spot, fate in front.least.items():
        view = view_from(front.spots, spot)
        if view not in views or fate < views[view][0]:
            views[view] = (fate, spot)
    # What is seen from a spot decides with which others it agrees, so the least fate of each view is enough.
    ranked = sorted([views[view] for view in views])
    for fate, spot in ranked:
        for other, further in ranked:
            if not front.spots.agree(spot, further):
                return "fork", fate, other
    raise InvalidOperation("all fates agree, so this is no fork")


def view_from(spots, spot):
    """What of a spot decides with which other ones it agrees."""
    place, deal, done = spot
    thing = spots.moves.thing(place)
    return (thing, deal) if deal == "broken" else (thing, done)
