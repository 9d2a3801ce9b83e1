"""Items [0.9] and rows [0.13]."""

import unittest

from skipahead.base.books import Book
from skipahead.base.items import is_item, is_items, is_row
from skipahead.errors import InvalidBook
from tests.examples import BOOK, ITEMS, MARK, NEW, VALUES
from tests.values import Case

ARGUMENTS = (None, "a", "abcdefgh", "failed", "kept", "skipped", "undone", "look", 0, 1, 7, 2000, 10 ** 60 - 1)
NO_ARGUMENTS = (
    True, False, -1, -2, 1 - 10 ** 60, "", "A", "a1", "abcdefghi", "a ", "0", (), ("a",), (0,), [], [0], ["a"], {},
    {"a": 1}, BOOK, (None,),
)


class IsItemTest(Case):
    def yes(self, value):
        self.assertIs(is_item(BOOK, value), True, value)

    def no(self, value):
        self.assertIs(is_item(BOOK, value), False, value)

    def test_items(self):
        self.yes(MARK)
        self.yes(NEW)
        for one in ARGUMENTS:
            self.yes(("send", "look", (one,)))
            for other in ARGUMENTS:
                self.yes(("send", "put", (one, other)))

    def test_each_argument_changed(self):
        for value in NO_ARGUMENTS:
            self.no(("send", "look", (value,)))
            self.no(("send", "put", (value, None)))
            self.no(("send", "put", (0, value)))

    def test_the_number_of_arguments(self):
        for command, takes in (("look", 1), ("new", 0), ("put", 2)):
            for many in range(5):
                self.assertIs(is_item(BOOK, ("send", command, (None,) * many)), many == takes)
                self.assertIs(is_item(BOOK, ("send", command, ("a",) * many)), many == takes)

    def test_the_arguments_are_a_tuple(self):
        for arguments in ([], {}, None, "", 0, False):
            self.no(("send", "new", arguments))
        for arguments in ([None], {"a": 1}, "a", None, 0, {0: 0}):
            self.no(("send", "look", arguments))

    def test_the_command(self):
        for command in VALUES + ("loo", "looks", "full", "ok", "LOOK", ["new"], ("new",)):
            self.no(("send", command, ()))
            self.no(("send", command, (None,)))
            self.no(("send", command, (None, None)))

    def test_the_first_word(self):
        for word in VALUES + ("sent", "SEND", "do", "new"):
            if word != "send":
                self.no((word, "new", ()))
            if word != "mark":
                self.no((word,))

    def test_the_length_and_the_kind(self):
        for value in ((), ("send",), ("send", "new"), ("send", "new", (), ()), ("send", "new", (), None), ("mark", ()),
                      ("mark", "mark"), ("mark", None, ()), ("mark", "new", ()), ["mark"], ["send", "new", ()], "mark",
                      ("send", "mark", ()), (MARK,), (NEW,), {"mark": 1}, {"send": "new"}):
            self.no(value)

    def test_every_value_is_accepted(self):
        for value in VALUES:
            self.assertIs(is_item(BOOK, value), value == MARK, value)

    def test_it_depends_on_the_book(self):
        self.assertIs(is_item(Book(new=(1, ("ok",))), NEW), False)
        self.assertIs(is_item(Book(new=(1, ("ok",))), ("send", "new", (None,))), True)
        self.assertIs(is_item(Book(look=(1, ("ok",))), NEW), False)
        self.assertIs(is_item(Book.of({"self": (0, ("ok",))}), ("send", "self", ())), True)


class IsItemsTest(Case):
    def yes(self, value):
        self.assertIs(is_items(BOOK, value), True, value)

    def no(self, value):
        self.assertIs(is_items(BOOK, value), False, value)

    def test_items(self):
        for value in ((), (MARK,), (NEW,), (MARK, MARK), ITEMS, ITEMS + ITEMS[3:], (NEW, NEW, ("send", "put", (0, 1))),
                      (("send", "look", (None,)), ("send", "look", ("who",)), ("send", "put", (1, 0))),
                      (MARK, NEW, ("send", "look", (1,)), ("send", "put", (2, 1)))):
            self.yes(value)

    def test_an_index_is_that_of_an_earlier_item_with_a_command(self):
        items = (NEW, MARK, ("send", "look", (None,)), MARK, NEW)
        for index in range(8):
            self.assertIs(is_items(BOOK, items + (("send", "look", (index,)),)), index in (0, 2, 4), index)
            self.assertIs(is_items(BOOK, items + (("send", "put", (index, 0)),)), index in (0, 2, 4), index)
            self.assertIs(is_items(BOOK, items + (("send", "put", ("a", index)),)), index in (0, 2, 4), index)
        for index in (-1, -2, -5, True, False, 10 ** 59):
            self.no(items + (("send", "look", (index,)),))
            self.no(items + (("send", "put", (index, 0)), MARK))

    def test_the_index_of_the_item_itself_or_of_a_later_one(self):
        self.no((("send", "look", (0,)),))
        self.no((NEW, ("send", "look", (1,))))
        self.no((("send", "look", (1,)), NEW))
        self.no((NEW, ("send", "look", (2,)), NEW))
        self.yes((NEW, ("send", "look", (0,)), NEW))

    def test_one_item_changed_at_each_place(self):
        for wrong in (("send", "new", (None,)), ("send", "knew", ()), ["mark"], ("mark", 0), "mark", None, (), True, BOOK):
            for at in range(len(ITEMS) + 1):
                self.no(ITEMS[:at] + (wrong,) + ITEMS[at:])

    def test_every_value_is_accepted(self):
        for value in VALUES:
            self.assertIs(is_items(BOOK, value), value in ((), ITEMS), value)
        for value in (list(ITEMS), [], {}, "mark", MARK, NEW, [MARK], {MARK: 1}):
            self.no(value)


class IsRowTest(Case):
    def test_rows(self):
        for value in ((), ("ok",), ("failed",), ("full",), ("room",), ("ok", "room", "failed", "full"), ("ok",) * 5000):
            self.assertIs(is_row(BOOK, value), True, value)

    def test_outcomes_of_no_command(self):
        for wrong in VALUES + ("look", "new", "put", "o", "okk", "rooms", "skipped", "undone", "kept", ("ok",), ["ok"]):
            if wrong not in ("ok", "failed"):
                for value in ((wrong,), ("ok", wrong), (wrong, "ok"), ("ok", wrong, "failed")):
                    self.assertIs(is_row(BOOK, value), False, value)

    def test_values_that_are_no_tuples(self):
        for value in ([], ["ok"], {}, {"ok": 1}, "ok", "", None, 0, BOOK):
            self.assertIs(is_row(BOOK, value), False, value)

    def test_every_value_is_accepted(self):
        for value in VALUES:
            self.assertIs(is_row(BOOK, value), value == (), value)

    def test_it_depends_on_the_book(self):
        book = Book(a=(0, ("x",)), b=(0, ("y", "z")))
        self.assertIs(is_row(book, ("x", "y", "z", "failed")), True)
        self.assertIs(is_row(book.without("a"), ("x",)), False)
        self.assertIs(is_row(book.without("b"), ("y",)), False)


class BookTest(Case):
    def test_a_first_value_that_is_no_book(self):
        for value in VALUES:
            if not isinstance(value, Book):
                for call, right in ((is_item, NEW), (is_items, ITEMS), (is_row, ("ok",))):
                    self.refused(InvalidBook, call, value, right)
                    self.refused(InvalidBook, call, value, 5)
                    self.refused(InvalidBook, call, value, ())


if __name__ == "__main__":
    unittest.main()
