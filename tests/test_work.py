"""Works [0.12], [0.11], and lines that are made with a row [0.13]."""

import itertools
import unittest

from skipahead.base.books import Book
from skipahead.errors import InvalidBook, InvalidItem, InvalidRow, TooMany
from skipahead.line.line import Line, is_work, sent
from tests.examples import BOOK, ITEMS, MARK, NEW, VALUES
from tests.model import SMALL, Model, all_steps
from tests.values import Case

KEPT = ("kept",)
ONE = Book(a=(1, ("ok",)))
PUT = ("send", "put", (None, None))


class IsWorkTest(Case):
    def yes(self, value, book=BOOK):
        self.assertIs(is_work(book, value), True, value)

    def no(self, value, book=BOOK):
        self.assertIs(is_work(book, value), False, value)

    def test_the_examples_of_the_document(self):
        self.yes((("new", (), "ok"), KEPT))
        self.no((("new", (), "failed"), KEPT))

    def test_all_works_of_up_to_three_entries_and_nothing_else(self):
        # Three entries need at most five items: a mark stands between two commands if the first one failed.
        works = {Model(steps).work for steps in all_steps(ONE, 5)}
        origins = (None, "x", 0, 1, 2)
        entries = [("a", (origin,), outcome) for origin in origins for outcome in ("failed", "ok")] + [KEPT]
        for many in range(4):
            for value in itertools.product(entries, repeat=many):
                self.assertIs(is_work(ONE, value), value in works, value)

    def test_works_of_lines(self):
        for steps in all_steps(SMALL, 3):
            self.yes(Model(steps).work, SMALL)

    def test_any_names_as_parameters(self):
        for name in ("a", "abcdefgh", "failed", "kept", "look"):
            self.yes((("look", (name,), "room"),))
        for name in ("", "A", "abcdefghi", "a b"):
            self.no((("look", (name,), "room"),))

    def test_works_however_long(self):
        entries = ()
        for at in range(3000):
            entries += (("look", (at - 1 if at else None,), "room"),)
            if at == 1500:
                entries += (KEPT,)
        self.yes(entries)
        self.yes(entries + (KEPT,))
        self.no(entries + (KEPT, KEPT))
        self.no(entries + (("look", (3000,), "room"),))
        self.yes(entries + (("look", (2999,), "failed"),))
        self.no(entries[:1501] + (KEPT,) + entries[1501:])
        self.no(entries[:-1] + (("look", (2999,), "room"),))

    def test_entries_left_out_put_in_doubled_and_exchanged(self):
        new, look, put = ("new", (), "ok"), ("look", (0,), "full"), ("put", (1, None), "failed")
        last = ("put", (0, 1), "ok")
        work = (new, look, KEPT, put, last, KEPT)
        self.yes(work)
        self.yes((new, look, put, last, KEPT))
        self.no((look, KEPT, put, last, KEPT))
        self.no((new, KEPT, put, last, KEPT))
        self.no((new, look, KEPT, put, KEPT))
        self.no((new, look, KEPT, put, KEPT, last, KEPT))
        self.no((KEPT,) + work)
        self.no(work + (KEPT,))
        self.no((new, look, KEPT, KEPT, put, last, KEPT))
        self.yes((new, KEPT, look, KEPT, put, last, KEPT))
        self.yes((new, new, look, KEPT, put, last, KEPT))
        self.no((look, new, KEPT, put, last, KEPT))
        self.no((new, look, put, KEPT, last, KEPT))
        self.no((put, new, look, KEPT, last, KEPT))

    def test_numbers_are_those_of_tried_commands_that_were_done(self):
        work = (("new", (), "ok"), KEPT, ("new", (), "failed"), ("new", (), "ok"))
        for number in range(6):
            self.assertIs(is_work(BOOK, work + (("look", (number,), "room"),)), number in (0, 2), number)
            self.assertIs(is_work(BOOK, work + (("put", (None, number), "ok"),)), number in (0, 2), number)
            self.assertIs(is_work(BOOK, work + (("put", (number, "a"), "ok"),)), number in (0, 2), number)
        for origin in (True, False, -1, -4, 10 ** 59, [], (), (0,), {}, BOOK):
            self.no(work + (("look", (origin,), "room"),))
            self.no(work + (("put", (0, origin), "ok"),))

    def test_one_thing_changed_in_an_entry(self):
        right = ("look", ("who",), "room")
        self.yes((right,))
        for value in VALUES + ("loo", "kept", ("look",), "full"):
            if value != "look":
                self.no(((value, ("who",), "room"),))
            if value not in ("room", "full", "failed"):
                self.no((("look", ("who",), value),))
            if not isinstance(value, tuple) or len(value) != 1:
                self.no((("look", value, "room"),))
            self.no((right + (value,),))
            if value != KEPT:
                self.no((("new", (), "ok"), value))
        for entry in (("look", ("who",)), ("look",), ("look", (), "room"), ("look", ("who", None), "room"), (),
                      ["look", ("who",), "room"], ("look", ["who"], "room"), ["kept"], ("kept", ()), "kept", ("kept", None, None),
                      ("undone",), ("skipped",), ("mark",), ("new", (), "room"), ("look", ("who",), "ok"), ("look", ("who",), None)):
            self.no((("new", (), "ok"), entry))
            self.no((entry,))

    def test_every_value_is_accepted(self):
        work = sent(BOOK, ITEMS, ("ok", "ok", "room")).work
        for value in VALUES:
            self.assertIs(is_work(BOOK, value), value in ((), work), value)
        for value in ([], list(work), {}, [KEPT], KEPT, "kept", (work,)):
            self.no(value)

    def test_it_depends_on_the_book(self):
        self.no((("new", (), "ok"),), SMALL)
        self.no((("a", (None,), "ok"),))
        self.yes((("a", (None,), "ok"),), SMALL)

    def test_a_first_value_that_is_no_book(self):
        for value in VALUES:
            if not isinstance(value, Book):
                self.refused(InvalidBook, is_work, value, ())
                self.refused(InvalidBook, is_work, value, 5)


class SentTest(Case):
    def test_each_row_of_each_line(self):
        for steps in all_steps(SMALL, 3):
            model = Model(steps)
            row = tuple(outcome for _, outcome in steps if outcome is not None)
            line = sent(SMALL, model.items, row)
            self.same((line.sequence, line.replies, line.work), (model.items, model.replies, model.work))
            self.same((line.tried, line.kept, line.deal), (model.tried, model.kept, model.deal))
            self.assertIs(type(line), Line)
            self.assertEqual(line.book, SMALL)

    def test_a_row_that_ends_sooner(self):
        expected = {
            (): 0, ("ok",): 1, ("failed",): 3, ("ok", "ok"): 3, ("ok", "failed"): 3, ("failed", "room"): 4, ("ok", "ok", "full"): 4,
        }
        for row, many in expected.items():
            line = sent(BOOK, ITEMS, row)
            self.same((line.sequence, len(line)), (ITEMS[:many], many))
        self.same(sent(BOOK, (MARK, MARK, NEW), ()).replies, ("kept", "kept"))
        self.same(sent(BOOK, (), ()).sequence, ())
        self.same(sent(BOOK, (PUT, NEW, MARK, NEW, MARK), ("failed",)).replies, ("failed", "skipped", "undone"))

    def test_an_outcome_left_over(self):
        for items, row in (((), ("ok",)), ((MARK,), ("failed",)), (ITEMS, ("failed", "room", "ok")), (ITEMS[:2], ("failed", "ok")),
                           (ITEMS, ("ok", "ok", "full", "failed")), ((NEW, NEW, NEW), ("failed", "failed"))):
            self.refused(InvalidRow, sent, BOOK, items, row)

    def test_an_outcome_of_another_command(self):
        for row in (("room",), ("ok", "room"), ("ok", "ok", "ok"), ("failed", "ok"), ("full", "ok", "ok")):
            self.refused(InvalidRow, sent, BOOK, ITEMS, row)

    def test_values_that_are_no_rows(self):
        for value in VALUES + (["ok"], "ok", ("ok", None), ("ok", ["ok"]), ("ok", "new"), ("kept",), (True,), {"ok": 1}):
            if value != ():
                self.refused(InvalidRow, sent, BOOK, ITEMS, value)

    def test_values_that_are_no_items(self):
        for value in VALUES + ([NEW], NEW, (NEW, ["mark"]), (("send", "look", (0,)),), (MARK, ("send", "look", (0,)))):
            if value not in ((), ITEMS):
                self.refused(InvalidItem, sent, BOOK, value, ())
                self.refused(InvalidItem, sent, BOOK, value, 5)

    def test_a_first_value_that_is_no_book(self):
        for value in VALUES:
            if not isinstance(value, Book):
                self.refused(InvalidBook, sent, value, ITEMS, ("ok",))
                self.refused(InvalidBook, sent, value, 5, 5)

    def test_an_item_behind_the_end_of_the_row_is_checked_too(self):
        self.refused(InvalidItem, sent, BOOK, (NEW, ("send", "look", (1,))), ())
        self.refused(InvalidItem, sent, BOOK, (NEW, NEW, "mark"), ("ok",))

    def test_two_thousand_items_and_more(self):
        self.same(len(sent(BOOK, (MARK,) * 2000, ())), 2000)
        self.keeps(TooMany, "limit", 2000, sent, BOOK, (MARK,) * 2001, ())
        self.same(len(sent(BOOK, (NEW,) * 2001, ("ok",) * 2000)), 2000)
        self.keeps(TooMany, "limit", 2000, sent, BOOK, (NEW,) * 2001, ("ok",) * 2001)
        self.keeps(TooMany, "limit", 2000, sent, BOOK, (NEW,) * 2000 + (MARK,), ("ok",) * 2000)
        self.keeps(TooMany, "limit", 2000, sent, BOOK, (NEW,) * 2500, ("failed",))
        self.same(len(sent(BOOK, (NEW,) * 2500, ("ok",) * 7)), 7)

    def test_a_wrong_row_comes_ahead_of_too_many_items(self):
        self.refused(InvalidRow, sent, BOOK, (MARK,) * 2001, ("ok",))
        self.refused(InvalidRow, sent, BOOK, (MARK,) * 2500 + (NEW,), ("room",))
        self.refused(InvalidRow, sent, BOOK, (NEW,) * 2500, ("ok",) * 2400 + ("room",))
        self.refused(InvalidRow, sent, BOOK, (MARK,) * 2001, ("new",))

    def test_the_line_goes_on(self):
        line = sent(BOOK, ITEMS, ("ok",))
        self.same((line.send(ITEMS[1], outcome="failed"), line.send(MARK), line.undo(many=3)), ("failed", "undone", 0))
        self.assertEqual(line, Line(BOOK))
        self.assertEqual(sent(BOOK, ITEMS, ("ok",)), sent(BOOK, ITEMS[:1], ("ok",)))


if __name__ == "__main__":
    unittest.main()
