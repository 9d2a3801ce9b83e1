"""Names of commands, answers, parameters, registers and states."""

RESERVED = ("failed", "kept", "skipped", "undone")
MAX_LETTERS = 8


def is_name(value):
    """Whether the value is a name."""
    if not isinstance(value, str) or not 1 <= len(value) <= MAX_LETTERS:
        return False
    return value.isascii() and value.isalpha() and value.islower()


def is_answer(value):
    """Whether the value is a name that is not reserved."""
    return is_name(value) and value not in RESERVED


def is_names(value):
    """Whether the value is an ascending tuple of names."""
    if not isinstance(value, tuple):
        return False
    last = ""
    for name in value:
        if not is_name(name) or name <= last:
            return False
        last = name
    return True
