"""The line [0.10], [0.11], [0.12]."""

import unittest

from skipahead.base.books import Book
from skipahead.errors import InvalidBook, InvalidItem, InvalidNumber, InvalidOperation, NothingToUndo, TooMany
from skipahead.line import line as module
from skipahead.line.line import Line, sent
from tests.examples import BOOK, ITEMS, MARK, NEW, TABLE, VALUES, numbers
from tests.model import SMALL, Model, all_steps
from tests.values import Case

PUT = ("send", "put", (None, None))
WRONG_ITEMS = (
    ("send", "look", (0,)), ("send", "look", (-1,)), ("send", "look", (True,)), ("send", "look", ()), ("send", "knew", ()),
    ("send", "new", (None,)), ("send", "new", []), ["mark"], ["send", "new", ()], ("mark", 0), "mark", ("send", "put", (None, 0)),
    ("send", "look", ("Who",)), ("send", "put", (None,)), (NEW,), {"mark": 1},
)


def line_of(book, steps):
    """A line on which these items were sent."""
    line = Line(book)
    for item, outcome in steps:
        line.send(item, outcome=outcome)
    return line


def full_line():
    """A line on which two thousand items were sent."""
    line = Line(BOOK)
    for _ in range(1000):
        line.send(NEW, outcome="ok")
        line.send(MARK)
    return line


def told(line):
    """All that a line tells without arguments."""
    return (line.sequence, line.replies, line.work, line.tried, line.kept, line.deal, len(line), str(line), line.book)


class ModelTest(Case):
    def check(self, line, steps):
        model = Model(steps)
        self.same(line.sequence, model.items)
        self.same(line.replies, model.replies)
        self.same(line.work, model.work)
        self.same((line.tried, line.kept, line.deal), (model.tried, model.kept, model.deal))
        self.same(len(line), len(steps))
        self.same(str(line), f"line with {len(steps)} items, {model.deal}")
        for argument in model.arguments():
            self.same(line.origin(argument), model.origin(argument))
        for at, item in enumerate(model.items):
            self.same(line[at], (item, model.replies[at]))
        for item, outcome in model.next_items(line.book):
            self.assertIs(line.is_tried(item), outcome is not None)

    def test_all_lines_of_up_to_four_items(self):
        seen = 0
        for steps in all_steps(SMALL, 4):
            line = Line(SMALL)
            answers = tuple(line.send(item, outcome=outcome) for item, outcome in steps)
            self.same(answers, Model(steps).replies)
            self.check(line, steps)
            seen += 1
        self.assertGreater(seen, 5000)

    def test_behind_each_item_of_a_longer_line_and_behind_each_undo(self):
        steps = (
            (("send", "b", ()), "yes"), (("send", "a", (0,)), "ok"), (("send", "a", (1,)), "failed"), (("send", "a", (2,)), None),
            (MARK, None), (("send", "a", (1,)), "ok"), (("send", "a", (3,)), "ok"), (MARK, None), (MARK, None),
            (("send", "a", (2,)), "failed"), (MARK, None), (("send", "a", (9,)), "ok"), (("send", "a", (11,)), "ok"),
            (("send", "a", ("x",)), "ok"), (MARK, None), (("send", "b", ()), "failed"), (("send", "b", ()), None),
        )
        line = Line(SMALL)
        for at, (item, outcome) in enumerate(steps):
            line.send(item, outcome=outcome)
            self.check(line, steps[:at + 1])
        for at in reversed(range(len(steps))):
            self.same(line.undo(), at)
            self.check(line, steps[:at])
        for item, outcome in steps:
            line.send(item, outcome=outcome)
        for many in (0, 1, 2, 5, 9):
            left = len(line) - many
            self.same(line.undo(many=many), left)
            self.check(line, steps[:left])

    def test_undo_of_several_items_from_each_line(self):
        for steps in all_steps(SMALL, 3):
            for many in range(len(steps) + 1):
                line = line_of(SMALL, steps)
                self.same(line.undo(many=many), len(steps) - many)
                self.check(line, steps[:len(steps) - many])

    def go_on(self, line, steps):
        """Sends further items, and checks all that the line tells behind each."""
        model = Model(steps)
        tried = model.deal != "broken"
        index = max([at for at, item in enumerate(model.items) if item != MARK], default=None)
        further = ((("send", "b", ()), "yes" if tried else None), (MARK, None), (("send", "a", (index,)), "ok"),
                   (("send", "a", (len(steps),)), "failed"), (("send", "b", ()), None))
        for at, (item, outcome) in enumerate(further):
            line.send(item, outcome=outcome)
            self.check(line, steps + further[:at + 1])

    def test_a_line_goes_on_behind_undo(self):
        for steps in all_steps(SMALL, 3):
            for many in range(len(steps) + 1):
                line = line_of(SMALL, steps)
                line.undo(many=many)
                self.go_on(line, steps[:len(steps) - many])

    def test_a_line_and_its_twin_go_on(self):
        for steps in all_steps(SMALL, 3):
            line = line_of(SMALL, steps)
            twin = line.twin()
            other = line.twin()
            twin.send(("send", "a", (None,)), outcome=None if line.deal == "broken" else "failed")
            self.go_on(line, steps)
            self.go_on(other, steps)
            self.check(twin, steps + ((("send", "a", (None,)), None if Model(steps).deal == "broken" else "failed"),))

    def test_a_line_goes_on_behind_a_block(self):
        for steps in all_steps(SMALL, 3):
            line = line_of(SMALL, steps)
            with line.trial():
                line.undo(many=len(steps) // 2)
                self.go_on(line, steps[:len(steps) - len(steps) // 2])
            self.check(line, steps)
            self.go_on(line, steps)


class SendTest(Case):
    def test_the_example_of_the_document(self):
        line = sent(BOOK, ITEMS, ("failed", "room"))
        self.same(line.replies, ("failed", "skipped", "undone", "room"))
        self.same(line.work, (("new", (), "failed"), ("look", (None,), "room")))
        self.same((line.deal, line.origin(0)), ("open", None))
        self.same((line.send(MARK), line.work[2:], line.undo(many=2), line.deal), ("kept", (("kept",),), 3, "fresh"))

    def test_a_new_line(self):
        self.same(told(Line(BOOK))[:-1], ((), (), (), 0, 0, "fresh", 0, "line with 0 items, fresh"))
        self.assertEqual(Line(BOOK).book, BOOK)

    def test_a_line_needs_a_book(self):
        for value in VALUES:
            if not isinstance(value, Book):
                self.refused(InvalidBook, Line, value)

    def test_marks_of_fresh_open_and_broken_deals(self):
        line = Line(BOOK)
        self.same((line.send(MARK), line.work, line.deal), ("kept", (), "fresh"))
        line.send(NEW, outcome="ok")
        self.same((line.deal, line.send(MARK), line.work[-1], line.deal), ("open", "kept", ("kept",), "fresh"))
        self.same((line.send(MARK), line.kept), ("kept", 1))
        line.send(NEW, outcome="failed")
        self.same((line.deal, line.send(MARK), line.work[-1], line.deal), ("broken", "undone", ("new", (), "failed"), "fresh"))
        line.send(NEW, outcome="ok")
        line.send(NEW, outcome="failed")
        self.same((line.send(MARK), line.kept, line.tried), ("undone", 1, 4))

    def test_a_value_that_was_undone_is_kept(self):
        line = sent(BOOK, (NEW, PUT, MARK, ("send", "put", (0, 1))), ("ok", "failed", "ok"))
        self.same(line.replies, ("ok", "failed", "undone", "ok"))
        self.same(line.work[-1], ("put", (0, None), "ok"))
        self.same((line.origin(0), line.origin(1), line.origin(3)), (0, None, 2))

    def test_names_of_parameters_may_be_reserved_or_names_of_commands(self):
        line = Line(BOOK)
        for name in ("failed", "kept", "skipped", "undone", "new", "a", "abcdefgh"):
            line.send(("send", "look", (name,)), outcome="room")
            self.same((line.work[-1], line.origin(name)), (("look", (name,), "room"), name))

    def refuse(self, error, item, **more):
        for steps in ((), ((MARK, None),), ((MARK, None), (PUT, "failed"))):
            line = line_of(BOOK, steps)
            before = told(line)
            self.refused(error, line.send, item, **more)
            self.assertEqual(told(line), before)

    def test_items_that_cannot_be_sent(self):
        for item in WRONG_ITEMS:
            self.refuse(InvalidItem, item)
            self.refuse(InvalidItem, item, outcome="ok")
            self.refuse(InvalidItem, item, outcome=5)
            line = line_of(BOOK, ((MARK, None),))
            self.refused(InvalidItem, line.is_tried, item)
        for item in VALUES:
            if item != MARK:
                self.refuse(InvalidItem, item)
                self.refused(InvalidItem, Line(BOOK).is_tried, item)

    def test_an_index_is_that_of_an_earlier_item_with_a_command(self):
        line = sent(BOOK, (NEW, MARK, PUT, NEW), ("ok", "failed"))
        for index in range(7):
            for item in (("send", "look", (index,)), ("send", "put", (index, None)), ("send", "put", ("a", index))):
                if index in (0, 2, 3):
                    self.assertIs(line.is_tried(item), False)
                    self.assertEqual(line.during(lambda same: same.send(item)), "skipped")
                else:
                    self.refused(InvalidItem, line.is_tried, item)
                    self.refused(InvalidItem, line.send, item)

    def test_an_index_is_no_truth_value(self):
        line = sent(BOOK, (NEW, NEW), ("ok", "ok"))
        for index in (True, False, -1, -2):
            self.refused(InvalidItem, line.send, ("send", "look", (index,)), outcome="room")
            self.refused(InvalidItem, line.is_tried, ("send", "look", (index,)))
            self.refused(InvalidItem, line.origin, index)

    def test_outcomes_of_a_tried_command(self):
        for item, outcomes in ((NEW, ("failed", "ok")), (("send", "look", (None,)), ("failed", "full", "room"))):
            for outcome in VALUES + ("full", "room", "skipped", "undone", "o", ("ok",), ["ok"], {"ok": 1}):
                line = line_of(BOOK, ((PUT, "ok"),))
                if outcome in outcomes:
                    self.same(line.send(item, outcome=outcome), outcome)
                else:
                    before = told(line)
                    self.refused(InvalidOperation, line.send, item, outcome=outcome)
                    self.assertEqual(told(line), before)
            self.refused(InvalidOperation, Line(BOOK).send, item)

    def test_no_outcome_of_an_item_that_is_not_tried(self):
        for outcome in VALUES + ("full", "room", "skipped", "undone", "kept"):
            if outcome is not None:
                line = line_of(BOOK, ((PUT, "failed"),))
                before = told(line)
                self.refused(InvalidOperation, line.send, NEW, outcome=outcome)
                self.refused(InvalidOperation, line.send, MARK, outcome=outcome)
                self.refused(InvalidOperation, Line(BOOK).send, MARK, outcome=outcome)
                self.assertEqual(told(line), before)
        line = line_of(BOOK, ((PUT, "failed"),))
        self.same((line.send(NEW), line.send(MARK, outcome=None)), ("skipped", "undone"))

    def test_is_tried_changes_nothing(self):
        line = sent(BOOK, ITEMS, ("ok", "ok", "room"))
        before = told(line)
        self.assertIs(line.is_tried(NEW), True)
        self.assertIs(line.is_tried(MARK), False)
        self.assertEqual(told(line), before)

    def test_two_thousand_items_and_one_more(self):
        self.same(module.MAX_ITEMS, 2000)
        line = full_line()
        self.same((len(line), line.tried, line.kept, len(line.work)), (2000, 1000, 1000, 2000))
        before = told(line)
        self.keeps(TooMany, "limit", 2000, line.send, NEW, outcome="ok")
        self.keeps(TooMany, "limit", 2000, line.send, MARK)
        self.assertEqual(told(line), before)
        self.refused(InvalidItem, line.send, ("send", "look", (1,)), outcome="room")
        self.refused(InvalidOperation, line.send, NEW)
        self.refused(InvalidOperation, line.send, MARK, outcome="ok")
        self.same(line[1999], (MARK, "kept"))
        self.same(line.origin(1998), 999)
        line.undo()
        self.same((line.send(NEW, outcome="failed"), len(line)), ("failed", 2000))
        self.keeps(TooMany, "limit", 2000, line.send, NEW)


class SendingSeveralTest(Case):
    def test_items_that_are_not_tried(self):
        line = same = line_of(BOOK, ((NEW, "ok"), (PUT, "failed")))
        line += (NEW, ("send", "look", (2,)), MARK, MARK)
        self.assertIs(line, same)
        self.same(line.replies, ("ok", "failed", "skipped", "skipped", "undone", "kept"))
        self.same(line.work, (("new", (), "ok"), ("put", (None, None), "failed")))
        self.same((len(line), line.deal, line.origin(3)), (6, "fresh", None))
        line += ()
        self.same(len(line), 6)
        self.same(line.undo(many=4), 2)
        self.same(line.deal, "broken")

    def test_a_mark_that_keeps(self):
        line = line_of(BOOK, ((NEW, "ok"),))
        line += (MARK,)
        self.same((line.replies, line.work, line.kept), (("ok", "kept"), (("new", (), "ok"), ("kept",)), 1))

    def refuse(self, error, steps, items):
        line = line_of(BOOK, steps)
        before = told(line)
        with self.assertRaises(error) as caught:
            line += items
        self.assertIs(type(caught.exception), error)
        self.assertEqual(told(line), before)
        return caught.exception

    def test_values_that_are_no_tuples_of_items(self):
        for items in VALUES + ("mark", NEW, [MARK], [], {MARK: 1}, None):
            if items != () and items != ITEMS:
                self.refuse(InvalidItem, ((PUT, "failed"),), items)

    def test_one_value_that_is_no_item_at_each_place(self):
        for wrong in (("mark", 0), ["mark"], "mark", ("send", "new", (None,)), ("send", "look", (True,)), ("send", "knew", ())):
            for items in ((wrong,), (wrong, MARK), (MARK, wrong), (MARK, NEW, wrong), (("send", "look", (9,)), wrong)):
                self.refuse(InvalidItem, (), items)
                self.refuse(InvalidItem, ((PUT, "failed"),), items)

    def test_the_first_item_that_raises_an_error(self):
        broken = ((NEW, "ok"), (PUT, "failed"))
        self.refuse(InvalidOperation, broken, (NEW, MARK, NEW))
        self.refuse(InvalidOperation, broken, (MARK, NEW, ("send", "look", (9,))))
        self.refuse(InvalidItem, broken, (MARK, ("send", "look", (9,)), NEW))
        self.refuse(InvalidItem, broken, (NEW, ("send", "look", (3,))))
        self.refuse(InvalidItem, broken, (MARK, ("send", "look", (2,))))
        self.refuse(InvalidOperation, (), (NEW,))
        self.refuse(InvalidOperation, (), (MARK, MARK, MARK, NEW))

    def test_more_than_two_thousand_items(self):
        line = full_line()
        line.undo(many=2)
        line += (MARK, MARK)
        before = told(line)
        for items in ((MARK,), (MARK, ("send", "look", (9999,)))):
            with self.assertRaises(TooMany) as caught:
                line += items
            self.same(caught.exception.limit, 2000)
        line += ()
        self.assertEqual(told(line), before)
        line.undo()
        before = told(line)
        with self.assertRaises(TooMany):
            line += (MARK, MARK)
        self.assertEqual(told(line), before)
        with self.assertRaises(InvalidOperation):
            line += (NEW, MARK, MARK)
        with self.assertRaises(InvalidItem):
            line += (("send", "look", (1,)), MARK, MARK)
        self.assertEqual(told(line), before)


class ReadingTest(Case):
    def test_origins_of_arguments(self):
        line = sent(BOOK, (NEW, PUT, NEW, MARK, ("send", "look", (0,)), MARK), ("ok", "failed", "full"))
        expected = {None: None, "who": "who", 0: 0, 1: None, 2: None, 4: 2}
        for argument, origin in expected.items():
            self.same(line.origin(argument), origin)
        for argument in (3, 5, 6, 7, 10 ** 59, -1, True, False, "", "A", "abcdefghi", (), (0,), [0], {}, ("who",), BOOK):
            self.refused(InvalidItem, line.origin, argument)
        for argument in VALUES:
            if argument is not None and not (isinstance(argument, str) and argument.isalpha() and argument.islower()):
                self.refused(InvalidItem, Line(BOOK).origin, argument)

    def test_pairs_by_index(self):
        line = sent(BOOK, ITEMS, ("failed", "room"))
        self.same([line[at] for at in range(4)], list(zip(ITEMS, ("failed", "skipped", "undone", "room"))))
        for value in numbers(4):
            self.assertIs(self.refused(InvalidNumber, line.__getitem__, value).value, value)
        self.keeps(InvalidNumber, "value", 4, line.__getitem__, 4)
        self.keeps(InvalidNumber, "value", 0, Line(BOOK).__getitem__, 0)
        self.keeps(InvalidNumber, "value", -1, line.__getitem__, -1)

    def test_a_line_is_not_iterated_over(self):
        for line in (Line(BOOK), sent(BOOK, ITEMS, ("ok",))):
            self.assertRaises(TypeError, iter, line)
            self.assertRaises(TypeError, list, line)

    def test_what_was_told_does_not_change(self):
        line = sent(BOOK, ITEMS, ("ok", "ok", "room"))
        before = told(line)
        text = repr(before)
        line.send(MARK)
        line += (MARK,)
        line.undo(many=5)
        self.assertEqual(repr(before), text)
        for value in (line.sequence, line.replies, line.work, line[0]):
            self.assertIs(type(value), tuple)

    def test_properties_are_not_assigned(self):
        line = sent(BOOK, ITEMS, ("ok", "ok", "room"))
        for name in ("book", "sequence", "replies", "work", "tried", "kept", "deal"):
            self.assertRaises(AttributeError, setattr, line, name, ())


class ComparingTest(Case):
    def check(self, one, other, equal):
        self.assertIs(one == other, equal)
        self.assertIs(one != other, not equal)

    def test_lines(self):
        line = sent(BOOK, ITEMS, ("ok", "failed", "room"))
        self.check(line, sent(BOOK, ITEMS, ("ok", "failed", "room")), True)
        self.check(Line(BOOK), Line(Book(put=BOOK["put"], new=BOOK["new"], look=BOOK["look"])), True)
        self.check(line, sent(BOOK, ITEMS, ("ok", "failed", "full")), False)
        self.check(line, sent(BOOK, ITEMS, ("failed", "room")), False)
        self.check(line, sent(BOOK, ITEMS[:1] + (("send", "put", (None, "who")),) + ITEMS[2:], ("ok", "failed", "room")), False)
        self.check(line, sent(BOOK | Book(more=(0, ("ok",))), ITEMS, ("ok", "failed", "room")), False)
        self.check(line, sent(BOOK, ITEMS + (MARK,), ("ok", "failed", "room")), False)
        self.check(line, sent(BOOK, ITEMS[:3], ("ok", "failed")), False)
        self.check(Line(BOOK), Line(SMALL), False)

    def test_equal_behind_another_way(self):
        line = sent(BOOK, ITEMS, ("ok", "ok", "full"))
        line.undo()
        self.check(line, sent(BOOK, ITEMS[:3], ("ok", "ok")), True)
        line.send(ITEMS[3], outcome="room")
        self.check(line, sent(BOOK, ITEMS, ("ok", "ok", "room")), True)

    def test_every_value(self):
        line = sent(BOOK, ITEMS, ("failed",))
        for value in VALUES + (TABLE, "line with 3 items, fresh", ITEMS):
            if not isinstance(value, Line):
                self.check(line, value, False)
                self.check(value, line, False)


class UndoTest(Case):
    def test_more_than_there_are(self):
        line = sent(BOOK, ITEMS, ("ok", "ok", "room"))
        before = told(line)
        self.keeps(NothingToUndo, "many", 5, line.undo, many=5)
        self.keeps(NothingToUndo, "many", 10 ** 60 - 1, line.undo, many=10 ** 60 - 1)
        self.keeps(NothingToUndo, "many", 1, Line(BOOK).undo)
        self.assertEqual(told(line), before)
        self.same(Line(BOOK).undo(many=0), 0)
        self.same(line.undo(many=4), 0)
        self.assertEqual(told(line), told(Line(BOOK)))

    def test_values_that_are_no_numbers(self):
        line = sent(BOOK, ITEMS, ("ok", "ok", "room"))
        before = told(line)
        for value in numbers(10 ** 60):
            self.assertIs(self.refused(InvalidNumber, line.undo, many=value).value, value)
        self.assertEqual(told(line), before)


class TrialTest(Case):
    def line(self):
        return sent(BOOK, ITEMS, ("failed", "room"))

    def test_a_block(self):
        line = self.line()
        before = told(line)
        with line.trial() as same:
            self.assertIs(same, line)
            self.assertEqual(told(line), before)
            same.send(MARK)
            line.send(NEW, outcome="failed")
            self.same((len(line), line.deal), (6, "broken"))
        self.assertEqual(told(line), before)

    def test_undo_and_several_items_in_a_block(self):
        line = self.line()
        before = told(line)
        with line.trial():
            line.undo(many=4)
            self.assertEqual(told(line), told(Line(BOOK)))
            line.send(NEW, outcome="ok")
        self.assertEqual(told(line), before)
        with line.trial() as same:
            same += (MARK, MARK)
            self.same(len(line), 6)
        self.assertEqual(told(line), before)

    def test_blocks_within_one_another(self):
        line = self.line()
        first = told(line)
        with line.trial():
            line.undo(many=2)
            second = told(line)
            with line.trial():
                line.undo(many=2)
                line.send(NEW, outcome="ok")
                third = told(line)
                with line.trial():
                    line.send(MARK)
                self.assertEqual(told(line), third)
            self.assertEqual(told(line), second)
            with line.trial():
                line.send(MARK)
            self.assertEqual(told(line), second)
        self.assertEqual(told(line), first)

    def test_a_block_that_ends_by_an_error(self):
        line = self.line()
        before = told(line)
        with self.assertRaises(KeyError):
            with line.trial():
                line.send(MARK)
                raise KeyError(1)
        self.assertEqual(told(line), before)
        with self.assertRaises(InvalidItem):
            with line.trial():
                with line.trial():
                    line.undo(many=3)
                    line.send("mark")
        self.assertEqual(told(line), before)

    def test_a_block_that_is_left_by_a_return(self):
        line = self.line()
        before = told(line)

        def leave():
            with line.trial() as same:
                same.send(MARK)
                return same.deal

        self.same(leave(), "fresh")
        self.assertEqual(told(line), before)

    def test_the_line_goes_on_behind_a_block(self):
        line = self.line()
        with line.trial():
            line.send(NEW, outcome="ok")
        line.send(NEW, outcome="failed")
        self.same((line.replies[-1], len(line), line.undo(), line.deal), ("failed", 5, 4, "open"))

    def test_during(self):
        line = self.line()
        before = told(line)
        self.assertIs(line.during(lambda same: same), line)
        self.same(line.during(lambda same: same.send(NEW, outcome="ok")), "ok")
        self.same(line.during(lambda same: (same.undo(many=3), same.deal, same.origin(0))), (1, "broken", None))
        self.same(line.during(lambda same: same.during(lambda again: again.undo()) + len(same)), 7)
        self.assertIs(line.during(lambda same: None), None)
        self.assertEqual(told(line), before)

    def test_during_with_an_error(self):
        line = self.line()
        before = told(line)
        self.refused(InvalidItem, line.during, lambda same: (same.send(MARK), same.send("mark")))
        self.refused(NothingToUndo, line.during, lambda same: (same.undo(many=3), same.undo(many=3)))
        self.assertEqual(told(line), before)

    def test_a_twin(self):
        line = self.line()
        twin = line.twin()
        self.assertIsNot(twin, line)
        self.assertIs(type(twin), Line)
        self.assertEqual(twin, line)
        self.assertEqual(told(twin), told(line))
        before = told(line)
        twin.send(MARK)
        twin.undo(many=3)
        self.assertEqual(told(line), before)
        self.same((len(twin), twin.deal, twin.origin(0)), (2, "broken", None))
        changed = told(twin)
        line.send(MARK)
        line += (MARK,)
        line.undo(many=6)
        self.assertEqual(told(twin), changed)

    def test_a_twin_can_be_undone(self):
        twin = self.line().twin()
        self.same([twin.undo(), twin.deal, twin.undo(), twin.deal, twin.undo(many=2)], [3, "fresh", 2, "broken", 0])

    def test_a_twin_made_in_a_block_stays(self):
        line = self.line()
        with line.trial():
            line.send(MARK)
            twin = line.twin()
            line.undo(many=3)
        self.same((len(twin), len(line)), (5, 4))
        with line.trial():
            twin.undo()
        self.assertEqual(twin, line)


if __name__ == "__main__":
    unittest.main()
