"""Values of every kind that can be passed, and a test case that asks for just one error."""

import unittest


def nested(deep, kind):
    """A value that is so many tuples, lists or dicts deep."""
    value = "ok"
    for _ in range(deep):
        value = {"tuple": (value,), "list": [value], "dict": {"a": value}}[kind]
    return value


PLAIN = (
    0, 1, 2, 7, -1, -7, 10 ** 60 - 1, 1 - 10 ** 60, True, False, None,
    "", "a", "ok", "failed", "kept", "Ok", "a b", "abcdefghi", "a\n", "\n", "(1,)", "send", "mark", "0", "~ !",
    (), (0,), (1, 2), ("a",), ("mark",), ("kept",), ("a", "b"), (None,), ((),), (True, ("ok",)), (0, ("ok",)),
    [], [0], ["a"], ["mark"], ["kept"], [[]], [0, ["ok"]], ["send", "new", []],
    {}, {"a": 1}, {1: "a"}, {None: None}, {True: ()}, {(1, "a"): []}, {"": {}}, {"a": (0, ("ok",))}, {"kept": "a"},
    nested(8, "tuple"), nested(8, "list"), nested(8, "dict"),
)


class Case(unittest.TestCase):
    """A test case whose errors have just one class."""

    def refused(self, error, call, *args, **more):
        """Asserts that a call raises an error of just this class, and returns it."""
        try:
            call(*args, **more)
        except Exception as caught:
            self.assertIs(type(caught), error, (args, more, caught))
            return caught
        return self.fail(f"{error.__name__} was not raised for {args!r} {more!r}")

    def keeps(self, error, attribute, value, call, *args, **more):
        """Asserts that a call raises just this error, and that this keeps the value."""
        caught = self.refused(error, call, *args, **more)
        kept = getattr(caught, attribute)
        self.assertEqual((type(kept), kept), (type(value), value))

    def same(self, one, other):
        """Asserts that two values are equal and of one kind throughout, so that True is not 1."""
        self.assertEqual(repr(one), repr(other))
        self.assertEqual(one, other)
