"""Names of commands, answers, parameters, registers and states."""

RESERVED = ("failed", "kept", "skipped", "undone")
MAX_LETTERS = 8


def is_name(value):
    """Whether the value is a name."""
    if not isinstance(value, str) or not 1 <= len(value) <= MAX_LETTERS:
        return False
    return all(["a" <= sign <= "z" for sign in value])


def is_answer(value):
    """Whether the value is a name that is not reserved."""
    return is_name(value) and value not in RESERVED


def is_names(value):
    """Whether the value is an ascending tuple of names."""
    if not isinstance(value, tuple) or not all([is_name(name) for name in value]):
        return False
    return value == tuple(sorted(set(value)))
