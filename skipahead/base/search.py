"""What can be reached by steps, and with how few outcomes.

A space tells the step from a key as a pair (word, told). Behind an end and a fault nothing comes; behind a silent step
and one that keeps a deal a single key; behind a try the pairs (outcome, way). From a way a space makes the key behind.
"""

from skipahead.errors import TooMany

OVER = "over"
FAULT = "fault"
SILENT = "silent"
KEEPS = "keeps"
TRIES = "tries"


def explored(space, first, most):
    """A dict of all keys that can be reached from the first one, and a shortest row to a fault, or None without one.

    Silent steps that lead back to where they began are a fault, too. TooMany for more than so many keys; if the most
    is None, there is no limit, and the search ends with the first fault.
    """
    known = {}
    many = 0
    fault = None
    # Each key at which something is tried, the ways on, the number of the group ahead of it and the outcome in there.
    groups = [(None, [(None, first)], 0, None)]
    number = 0
    while number < len(groups) and (fault is None or most is not None):
        start, ways, _, _ = groups[number]
        for outcome, way in ways:
            key = way if start is None else space.behind(start, outcome, way)
            # How many keys were known when the silent steps began that lead to this one.
            begun = many
            while key is not None:
                place = known.setdefault(key, many)
                if place < many:
                    if place >= begun and fault is None:
                        fault = (number, outcome)
                    break
                if many == most:
                    raise TooMany(most)
                many = many + 1
                word, told = space.step(key)
                if word == TRIES:
                    groups.append((key, told, number, outcome))
                    break
                key = told
                if word == KEEPS:
                    begun = many
                elif word == FAULT and fault is None:
                    fault = (number, outcome)
        number = number + 1
    return known, None if fault is None else row_to(groups, fault)


def row_to(groups, place):
    """The outcomes up to one that stands in a group."""
    number, outcome = place
    row = []
    while outcome is not None:
        row.append(outcome)
        _, _, number, outcome = groups[number]
    return tuple(row[::-1])


def is_closed(space, first, keys):
    """Whether these keys are the first one and all behind each, without a fault."""
    known = {key: True for key in keys}
    if first not in known:
        return False
    silent = {}
    for key in known:
        word, told = space.step(key)
        if word == FAULT or not all([behind in known for behind in keys_behind(space, key, word, told)]):
            return False
        if word == SILENT:
            silent[key] = told
    return not has_circle(silent)


def keys_behind(space, key, word, told):
    """The keys behind a step from a key."""
    if word == TRIES:
        return [space.behind(key, outcome, way) for outcome, way in told]
    return [] if told is None else [told]


def has_circle(ahead):
    """Whether the ways from some key, as this dict tells them, lead back to it."""
    met = {}
    for start in ahead:
        key = start
        while key in ahead and key not in met:
            met[key] = start
            key = ahead[key]
        # Only what was met on this very way closes a circle.
        if key in met and met[key] == start:
            return True
    return False


def are_ascending(texts):
    """Whether each text is greater than the one ahead of it."""
    return all([text < further for text, further in zip(texts, texts[1:])])


def by_text(space, keys):
    """The tuple of the states with these different keys, ascending by their texts."""
    states = {text: state for text, state in [space.shown(key) for key in keys]}
    return tuple([states[text] for text in sorted(states)])
