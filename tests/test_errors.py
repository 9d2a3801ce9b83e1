"""The errors [0.21]."""

import unittest

from skipahead import errors
from tests.values import PLAIN, Case

WITH_MESSAGE = (
    "InvalidBook", "InvalidItem", "InvalidProgram", "InvalidSender", "InvalidServer", "InvalidFacts", "InvalidRow",
    "InvalidStand", "InvalidOperation",
)
KEEPING = {
    "ParseError": ("number", errors.AheadError),
    "UnknownName": ("name", KeyError),
    "InvalidNumber": ("value", IndexError),
    "NothingToUndo": ("many", LookupError),
    "TooMany": ("limit", OverflowError),
    "Unlike": ("row", RuntimeError),
}


def above():
    """Each class of the document with the class that it is derived from."""
    table = {errors.AheadError: ValueError}
    table.update({getattr(errors, name): errors.AheadError for name in WITH_MESSAGE})
    table.update({getattr(errors, name): KEEPING[name][1] for name in KEEPING})
    return table


class ErrorsTest(Case):
    def test_each_is_derived_directly_from_what_the_document_tells(self):
        for kind, base in above().items():
            self.assertEqual(kind.__bases__, (base,), kind)

    def test_there_are_sixteen_classes_defined_in_the_module(self):
        self.assertEqual(len(above()), 16)
        for kind in above():
            self.assertEqual(kind.__module__, "skipahead.errors")

    def test_no_class_is_derived_from_another_one_but_the_base(self):
        for kind in above():
            for other in above():
                told = kind is other or (other is errors.AheadError and above()[kind] is other)
                self.assertEqual(issubclass(kind, other), told, (kind, other))

    def test_each_is_caught_by_its_class_and_by_the_base_just_where_told(self):
        for kind, base in above().items():
            for other in list(above()) + [ValueError, KeyError, IndexError, LookupError, OverflowError, RuntimeError]:
                try:
                    raise kind("words")
                except other:
                    caught = True
                except Exception:
                    caught = False
                self.assertEqual(caught, other is kind or issubclass(base, other), (kind, other))

    def test_a_message_is_taken(self):
        for name in ("AheadError",) + WITH_MESSAGE:
            self.assertEqual(str(getattr(errors, name)("no such thing")), "no such thing")

    def test_what_is_taken_is_kept_under_its_name(self):
        for name, (attribute, _) in KEEPING.items():
            for value in PLAIN:
                self.assertIs(getattr(getattr(errors, name)(value), attribute), value, name)

    def test_what_is_taken_is_needed(self):
        for name in KEEPING:
            self.assertRaises(TypeError, getattr(errors, name))

    def test_an_error_has_no_attribute_of_another_one(self):
        names = {attribute for attribute, _ in KEEPING.values()}
        for kind in above():
            own = KEEPING.get(kind.__name__, (None,))[0]
            for attribute in names - {own}:
                self.assertFalse(hasattr(kind("words"), attribute), (kind, attribute))


if __name__ == "__main__":
    unittest.main()
