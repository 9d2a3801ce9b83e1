"""How long something takes, measured by what this machine does meanwhile."""

import time


def reference():
    """Does a fixed piece of work with tuples, lists and dicts: about a millisecond on a machine that is not loaded."""
    known = {}
    rows = []
    for number in range(5000):
        key = (number % 97, "mark", (number,))
        known[key] = number
        rows.append(known[key])
    return len(rows)


def seconds(call):
    """How long a call takes."""
    begun = time.perf_counter()
    call()
    return time.perf_counter() - begun


def is_within(call, times, tries=40):
    """Whether a call takes, in the best of many tries, at most so many times as long as the reference beside it."""
    for _ in range(tries):
        unit = min(seconds(reference), seconds(reference))
        if seconds(call) <= times * unit:
            return True
    return False
