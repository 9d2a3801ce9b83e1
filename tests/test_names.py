"""Names [0.7]."""

import string
import unittest

from skipahead.base.books import Book
from skipahead.base.names import RESERVED, is_answer, is_name
from tests.values import PLAIN, Case

NAMES = ("a", "z", "ab", "zz", "room", "abcdefg", "abcdefgh", "zzzzzzzz", "if", "self", "none", "true", "book", "send")
NO_NAMES = (
    "", "abcdefghi", "a" * 60, "A", "Z", "aB", "Ab", "ROOM", "a1", "1", "a_b", "_", "a-b", "a b", " a", "a ", " ",
    "a\n", "\na", "\n", "`", "{", "a{", "@", "[", "a.b", "a,b", "'a'",
)
NEAR = ("faile", "failedd", "fail", "ailed", "keep", "kep", "ept", "keptt", "skip", "skippe", "skippd", "undo", "undon",
        "undoned", "done", "ked", "pped")


class NamesTest(Case):
    def test_names(self):
        for value in NAMES + NEAR:
            self.assertIs(is_name(value), True, value)
            self.assertIs(is_answer(value), True, value)

    def test_strings_that_are_no_names(self):
        for value in NO_NAMES:
            self.assertIs(is_name(value), False, value)
            self.assertIs(is_answer(value), False, value)

    def test_the_length_is_from_one_to_eight(self):
        for length in range(20):
            for sign in "anz":
                self.assertIs(is_name(sign * length), 1 <= length <= 8)
                self.assertIs(is_answer(sign * length), 1 <= length <= 8)

    def test_each_printable_sign_and_newline_in_each_place(self):
        for sign in [chr(code) for code in range(32, 127)] + ["\n"]:
            for text in (sign, sign + "bc", "b" + sign + "c", "bc" + sign, "bcdefgh" + sign):
                self.assertIs(is_name(text), sign in string.ascii_lowercase, text)
                self.assertIs(is_answer(text), sign in string.ascii_lowercase, text)

    def test_reserved_names_are_names_but_no_answers(self):
        self.same(RESERVED, ("failed", "kept", "skipped", "undone"))
        for value in RESERVED:
            self.assertIs(is_name(value), True)
            self.assertIs(is_answer(value), False)

    def test_reserved_names_in_other_letters_or_with_more_signs(self):
        for name in RESERVED:
            for text in (name.upper(), name.capitalize(), name + " ", " " + name, name + "\n"):
                self.assertIs(is_name(text), False)
                self.assertIs(is_answer(text), False)

    def test_values_of_other_kinds_are_no_names_and_raise_nothing(self):
        others = [value for value in PLAIN if not isinstance(value, str)]
        book = Book(new=(0, ("ok",)))
        for value in others + [book, iter(book), NAMES, list(NAMES), {"a": "a"}, ("a", "b"), RESERVED]:
            self.assertIs(is_name(value), False, value)
            self.assertIs(is_answer(value), False, value)


if __name__ == "__main__":
    unittest.main()
