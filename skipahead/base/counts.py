"""Numbers that count."""

from skipahead.errors import InvalidNumber

MAX_WINDOW = 16


def is_count(value):
    """Whether the value is an integer of at least 0."""
    return type(value) is int and value >= 0


def need_count(many):
    """Refuses what is not an integer of at least 0."""
    if not is_count(many):
        raise InvalidNumber(many)


def need_window(window):
    """Refuses what is not an integer from 1 to 16."""
    if not is_count(window) or not 1 <= window <= MAX_WINDOW:
        raise InvalidNumber(window)
