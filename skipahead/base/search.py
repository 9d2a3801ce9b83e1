"""What can be reached by steps, and with how few outcomes."""

from skipahead.errors import TooMany


def reached(space, first, most):
    """All that can be reached from the first one, each with a shortest row, shorter and lesser rows first.

    The space tells the steps of each as pairs (outcome, reached), with ascending outcomes, or None if a step has none.
    The dict that is returned tells from where each was reached, and with what outcome. TooMany for more than so many.
    """
    found = {}
    layer = [(first, None, None)]
    while layer:
        # What needs one outcome more has to wait until nothing else is reached without it.
        further = []
        for start in layer:
            ahead = [start]
            while ahead:
                state, before, outcome = ahead.pop()
                if state in found:
                    continue
                if len(found) == most:
                    raise TooMany(most)
                found[state] = (before, outcome)
                for told, behind in space.steps(state):
                    if told is None:
                        ahead.append((behind, state, None))
                    else:
                        further.append((behind, state, told))
        layer = further
    return found


def row_to(found, state):
    """The outcomes with which a state was reached."""
    row = []
    while state is not None:
        state, outcome = found[state]
        if outcome is not None:
            row.append(outcome)
    return tuple(row[::-1])


def is_closed(space, first, states):
    """Whether these are the first one and, with each one, at which all goes on well, those behind it, by text."""
    texts = [repr(state) for state in states]
    if not all([text < further for text, further in zip(texts, texts[1:])]):
        return False
    known = {state: True for state in states}
    if first not in known or not all([space.goes_well(state) for state in states]):
        return False
    return all([behind in known for state in states for _, behind in space.steps(state)])
