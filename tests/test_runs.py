"""Plain runs, and what a program does with a row [0.10] to [0.14]."""

import unittest

from skipahead.base.books import Book
from skipahead.errors import (
    InvalidNumber, InvalidProgram, InvalidRow, InvalidServer, NothingToUndo, TooMany, UnknownName,
)
from skipahead.line.line import Line, sent
from skipahead.line.servers import Server
from skipahead.plain import runs
from skipahead.plain.programs import Program
from skipahead.plain.runs import PlainRun, behind, is_row_of, row_of
from tests.examples import BOOK, CAREFUL, LOOP, MARK, NEW, ORDER, SERVER, TABLE, TURNING, VALUES, numbers
from tests.making import random_program, seeded
from tests.oracle import KEPT, Walk, rows, walk_with
from tests.values import Case

DO = ("do", "new", (), None)
TINY = Book(a=(0, ("ok",)))
STEADY = Server.steady(BOOK, {"look": "room", "new": "ok", "put": "ok"})
FAILING = Server.steady(BOOK, {"look": "room", "new": "failed", "put": "ok"})
FOREVER = Program(BOOK, DO, MARK, ("go", 0))


def told(run):
    """All that a run tells without arguments."""
    return (run.line.sequence, run.line.replies, run.work, run.at, run.last, run.state, run.result, run.waits, len(run), str(run),
            [run.held(name) for name in run.program.registers])


class StepsTest(Case):
    def test_the_example_of_the_document(self):
        run = PlainRun(ORDER, SERVER)
        work = (("new", (), "ok"), ("put", (0, "who"), "failed"))
        self.same([run.go(many=3), run.work, run.last, run.held("x"), run.at], ["going", work, "undone", 0, 3])
        self.same([run.go(many=99), run.result, run.waits], ["ended", "more", 6])

    def test_step_by_step_with_a_server(self):
        run = PlainRun(ORDER, SERVER)
        expected = [
            (0, None, "going", None, None), (1, "ok", "going", None, 0), (2, "failed", "going", None, 0), (3, "undone", "going", None, 0),
            (6, "full", "going", None, 0), (7, "ok", "going", None, 0), (8, "kept", "ended", "more", 0),
        ]
        for many, (at, last, state, result, held) in enumerate(expected):
            self.same((run.at, run.last, run.state, run.result, run.held("x"), run.held("who")), (at, last, state, result, held, "who"))
            self.same((len(run), run.waits, str(run)), (many, many, f"run at line {at} behind {many} items"))
            if many < 6:
                self.same(run.go(), expected[many + 1][2])
        self.same(run.line.sequence, (NEW, ("send", "put", (0, "who")), MARK, ("send", "look", (0,)), NEW, MARK))
        self.same(run.line.replies, ("ok", "failed", "undone", "full", "ok", "kept"))
        self.same(run.go(many=5), "ended")
        self.same(len(run), 6)

    def test_step_by_step_with_a_row(self):
        run = PlainRun(ORDER, ("failed", "room"))
        self.same((run.state, run.go(), run.last, run.held("x"), run.at), ("going", "going", "failed", None, 1))
        self.same((run.go(), run.last, run.at), ("going", "skipped", 2))
        self.same((run.go(), run.last, run.at), ("going", "undone", 3))
        self.same((run.go(), run.result, run.at, run.last), ("ended", "room", 5, "room"))
        self.same(run.line.sequence, (NEW, ("send", "put", (None, "who")), MARK, ("send", "look", (None,))))
        self.same(run.work, (("new", (), "failed"), ("look", (None,), "room")))

    def test_pauses(self):
        run = PlainRun(ORDER, ())
        self.same((run.state, run.at, run.go(many=4), len(run), run.result), ("paused", 0, "paused", 0, None))
        run = PlainRun(ORDER, ("ok",))
        self.same((run.state, run.go(), run.at, run.go(), len(run)), ("going", "paused", 1, "paused", 1))
        run = PlainRun(ORDER, ("failed",))
        self.same((run.go(many=9), run.at, run.last, len(run)), ("paused", 3, "undone", 3))
        self.same(PlainRun(CAREFUL, ("failed",)).go(many=9), "ended")

    def test_ends(self):
        for line, result in ((("give", "kept"), "kept"), (("last",), None), (("go", 1), None)):
            run = PlainRun(Program(BOOK, line), ())
            self.same((run.state, run.result, run.at, run.last, run.go(many=3), len(run)),
                      ("ended", result, 1 if line[0] == "go" else 0, None, "ended", 0))
        run = PlainRun(Program(BOOK, DO, MARK, ("last",)), STEADY)
        self.same((run.go(many=2), run.result, run.at), ("ended", "kept", 2))
        run = PlainRun(Program(BOOK, DO), ("failed",))
        self.same((run.go(), run.result, run.at, run.last), ("ended", None, 1, "failed"))

    def test_a_row_with_outcomes_left_over(self):
        run = PlainRun(CAREFUL, ("failed", "ok", "room"))
        self.same((run.go(many=9), run.result), ("ended", "no"))

    def test_registers(self):
        made = Program(BOOK, ("do", "look", ("p",), "p"), ("do", "put", ("p", "q"), "q"), ("do", "put", ("q", "p"), None), parameters=("p",))
        run = PlainRun(made, ("room", "failed"))
        run.go(many=3)
        self.same(run.line.sequence, (("send", "look", ("p",)), ("send", "put", (0, None)), ("send", "put", (None, 0))))
        self.same((run.held("p"), run.held("q")), (0, None))
        run = PlainRun(made, ("failed",))
        self.same((run.held("p"), run.go(many=3), run.held("p"), run.held("q")), ("p", "ended", None, None))
        # A register that is named by a skipped command holds nothing.
        made = Program(BOOK, ("do", "new", (), "x"), ("do", "look", ("x",), None), ("do", "new", (), "x"), MARK)
        run = PlainRun(made, ("ok", "failed"))
        self.same((run.go(many=2), run.held("x"), run.go(), run.held("x")), ("going", 0, "going", None))

    def test_origins_are_numbers_of_tried_commands(self):
        made = Program(BOOK, DO, MARK, ("do", "new", (), "x"), ("do", "look", ("x",), None))
        run = PlainRun(made, ("failed", "ok", "full"))
        run.go(many=3)
        self.same((run.held("x"), run.go(), run.work[2], run.line.sequence[3]), (1, "ended", ("look", (1,), "full"), ("send", "look", (2,))))

    def test_names_that_are_no_registers(self):
        run = PlainRun(ORDER, SERVER)
        for value in VALUES + ("y", "X"):
            self.keeps(UnknownName, "name", value, run.held, value)

    def test_against_a_second_reckoning(self):
        for seed in range(150):
            made = random_program(seeded(seed))
            for row in list(rows(made, 3))[:12]:
                run, walk = PlainRun(made, row), Walk(made)
                tried = 0
                for _ in range(30):
                    self.same((run.at, run.last), (walk.at, walk.last))
                    held = {name: run.held(name) for name in made.registers}
                    self.same(held, {name: walk.held[name] for name in made.registers})
                    if walk.ended():
                        self.same((run.state, run.result), ("ended", walk.result()))
                        break
                    if walk.tries() and tried == len(row):
                        self.same((run.state, run.result), ("paused", None))
                        break
                    self.same((run.state, run.result), ("going", None))
                    outcome = row[tried] if walk.tries() else None
                    value, tried = tried, tried + (outcome is not None)
                    walk.step(outcome, value)
                    run.go()

    def test_the_states_of_a_server(self):
        # Behind a kept deal in which something was tried it goes on in another state, but not behind other marks.
        made = Program(BOOK, MARK, DO, MARK, MARK, DO, DO, DO, MARK, DO, ("do", "look", ("x",), None), MARK, ("do", "look", ("x",), None), MARK, MARK,
                       ("do", "look", ("x",), None))
        run = PlainRun(made, TURNING)
        run.go(many=99)
        state, replies = "a", []
        deal = "fresh"
        for item in run.line.sequence:
            if item == MARK:
                state = TURNING.table[state]["kept"] if deal == "open" else state
                replies.append("undone" if deal == "broken" else "kept")
                deal = "fresh"
            elif deal == "broken":
                replies.append("skipped")
            else:
                outcome, state = TURNING.table[state][item[1]]
                replies.append(outcome)
                deal = "broken" if outcome == "failed" else "open"
        self.same(run.line.replies, tuple(replies))
        self.assertTrue({"ok", "failed", "kept", "undone", "skipped"} <= set(replies))
        row = tuple(entry[2] for entry in run.work if entry != KEPT)
        self.same((row_of(made, TURNING, 99), row_of(made, TURNING, 3)), (row, row[:3]))
        self.same(TURNING(run.work), state)
        self.same(behind(made, row), (run.work, ("end", None)))
        for many in range(len(run) + 1):
            twin = run.twin()
            twin.undo(many=many)
            twin.go(many=many)
            self.same(told(twin), told(run))

    def test_many_items_at_once(self):
        for seed in range(40):
            made = random_program(seeded(seed))
            for row in list(rows(made, 3))[-4:]:
                one, many = PlainRun(made, row), PlainRun(made, row)
                for at in range(9):
                    self.assertEqual(many.during(lambda run, at=at: (run.go(many=at), told(run))[1]), told(one))
                    one.go()


class RefusedTest(Case):
    def test_what_is_passed(self):
        for value in VALUES:
            if not isinstance(value, Program):
                self.refused(InvalidProgram, PlainRun, value, SERVER)
                self.refused(InvalidProgram, PlainRun, value, 5)
        for value in VALUES + (Server.steady(TINY, {"a": "ok"}), ["ok"], ("ok", "nothing"), ("kept",), "ok", ("ok", None)):
            if value not in ((), SERVER):
                self.refused(InvalidServer, PlainRun, ORDER, value)
        self.refused(InvalidServer, PlainRun, ORDER, ("ok",) * 5 + ("undone",))

    def test_numbers(self):
        run = PlainRun(ORDER, SERVER)
        for value in numbers(10 ** 60):
            self.keeps(InvalidNumber, "value", value, lambda value=value: run.go(many=value))
            self.keeps(InvalidNumber, "value", value, lambda value=value: run.undo(many=value))
        self.same((run.go(many=0), len(run)), ("going", 0))
        self.same(PlainRun(ORDER, SERVER).go(many=10 ** 60 - 1), "ended")

    def test_a_wrong_outcome_leaves_the_run_as_before(self):
        run = PlainRun(ORDER, ("ok", "room"))
        run.go()
        before = told(run)
        self.refused(InvalidRow, run.go)
        self.refused(InvalidRow, run.go, many=7)
        self.same(told(run), before)
        run = PlainRun(ORDER, ("full",))
        self.refused(InvalidRow, run.go, many=3)
        self.same((run.state, len(run), run.work), ("going", 0, ()))

    def test_two_thousand_items_and_one_more(self):
        run = PlainRun(FOREVER, STEADY)
        self.same((run.go(many=2000), len(run)), ("going", 2000))
        before = told(run)
        self.keeps(TooMany, "limit", 2000, run.go)
        self.same(told(run), before)
        self.same((run.go(many=0), run.undo(many=3), run.go(many=3)), ("going", 1997, "going"))
        run = PlainRun(FOREVER, STEADY)
        self.keeps(TooMany, "limit", 2000, lambda: run.go(many=2001))
        self.same(len(run), 0)
        self.keeps(TooMany, "limit", 2000, lambda: run.go(many=10 ** 59))

    def test_whichever_comes_first(self):
        run = PlainRun(FOREVER, ("ok",) * 1000 + ("room",))
        self.refused(InvalidRow, run.go, many=2001)
        run = PlainRun(FOREVER, ("ok",) * 1001 + ("room",))
        self.keeps(TooMany, "limit", 2000, lambda: run.go(many=3000))
        run = PlainRun(FOREVER, ("ok",) * 1000)
        self.same((run.go(many=3000), len(run)), ("paused", 2000))
        run = PlainRun(Program(BOOK, MARK, DO, MARK, ("go", 1)), ("ok",) * 1000)
        self.keeps(TooMany, "limit", 2000, lambda: run.go(many=3000))


class UndoTest(Case):
    def test_undo_and_go_again(self):
        for seed in range(40):
            made = random_program(seeded(seed))
            row = list(rows(made, 4))[-1]
            run = PlainRun(made, row)
            before = [told(run)]
            while run.state == "going" and len(run) < 12:
                run.go()
                before.append(told(run))
            for many in range(len(before)):
                twin = run.twin()
                self.same((twin.undo(many=many), told(twin)), (len(run) - many, before[len(run) - many]))
                twin.go(many=many)
                self.same(told(twin), before[-1])
                self.assertEqual(twin, run)
            self.keeps(NothingToUndo, "many", len(run) + 1, lambda: run.undo(many=len(run) + 1))
            self.same(told(run), before[-1])

    def test_undo_with_a_server_takes_its_state_back_too(self):
        run = PlainRun(ORDER, SERVER)
        run.go(many=99)
        replies = run.line.replies
        for many in (6, 4, 3, 1):
            self.same((run.undo(many=many), run.go(many=many), run.line.replies), (6 - many, "ended", replies))
        self.same((run.undo(), run.undo(many=0), run.undo(many=5), run.state), (5, 5, 0, "going"))
        self.keeps(NothingToUndo, "many", 1, run.undo)

    def test_trials(self):
        run = PlainRun(ORDER, SERVER)
        run.go()
        before = told(run)
        with run.trial() as same:
            self.assertIs(same, run)
            same.go(many=2)
            inner = told(run)
            with run.trial():
                run.undo(many=3)
            self.same(told(run), inner)
        self.same(told(run), before)
        self.same(run.during(lambda same: (same.go(many=9), same.result)), ("ended", "more"))
        self.same(told(run), before)
        self.refused(ZeroDivisionError, run.during, lambda same: same.go() and 1 // 0)
        self.same(told(run), before)

    def test_twins(self):
        run = PlainRun(ORDER, SERVER)
        run.go(many=2)
        twin = run.twin()
        self.assertIs(type(twin), PlainRun)
        self.assertEqual(twin, run)
        twin.go()
        self.same((len(run), len(twin)), (2, 3))
        run.undo(many=2)
        self.same((len(run), len(twin), twin.last), (0, 3, "undone"))

    def test_equality(self):
        run = PlainRun(ORDER, SERVER)
        self.assertIs(run == PlainRun(ORDER, Server(BOOK, TABLE, start="a")), True)
        self.assertIs(run != PlainRun(ORDER, SERVER), False)
        for other in (PlainRun(ORDER, Server(BOOK, TABLE, start="b")), PlainRun(CAREFUL, SERVER), PlainRun(ORDER, ("ok",)), ORDER, SERVER):
            self.assertIs(run == other, False)
            self.assertIs(run != other, True)
        self.assertIs(PlainRun(ORDER, ("ok",)) == PlainRun(ORDER, ("ok",)), True)
        self.assertIs(PlainRun(ORDER, ("ok",)) == PlainRun(ORDER, ("ok", "ok")), False)
        run.go()
        self.assertIs(run == PlainRun(ORDER, SERVER), False)
        for value in VALUES:
            self.assertIs(run == value, False)
            self.assertIs(value == run, False)
        self.refused(TypeError, iter, run)

    def test_what_is_returned_gives_no_access(self):
        run = PlainRun(ORDER, SERVER)
        run.go(many=2)
        line = run.line
        self.assertIs(type(line), Line)
        self.assertEqual(line, sent(BOOK, line.sequence, ("ok", "failed")))
        line.send(MARK)
        self.same((len(run), len(run.line), run.line.deal), (2, 2, "broken"))
        self.assertEqual((run.program, run.server), (ORDER, SERVER))


class RowTest(Case):
    def test_the_examples_of_the_document(self):
        self.same(row_of(ORDER, SERVER, 9), ("ok", "failed", "full", "ok"))
        self.same(behind(ORDER, ("failed",)), ((("new", (), "failed"),), ("try", "look", (None,))))
        self.same(behind(CAREFUL, ("ok", "room"))[1], ("end", "room"))

    def test_row_of_a_number(self):
        row = ("ok", "failed", "full", "ok")
        for many in range(7):
            self.same(row_of(ORDER, SERVER, many), row[:many])
        self.same(row_of(FOREVER, FAILING, 5), ("failed",) * 5)
        self.same(len(row_of(FOREVER, STEADY, 3000)), 3000)
        # Far more than 2000 items.
        many_marks = Program(BOOK, DO, *[MARK] * 22, ("go", 0))
        self.same(len(row_of(many_marks, STEADY, 3000)), 3000)
        self.keeps(TooMany, "limit", 3000, row_of, FOREVER, STEADY, 3001)
        self.keeps(TooMany, "limit", 3000, row_of, CAREFUL, STEADY, 10 ** 59)
        for value in numbers(10 ** 60):
            self.keeps(InvalidNumber, "value", value, row_of, ORDER, SERVER, value)
        for value in VALUES + (Server.steady(TINY, {"a": "ok"}), ("ok",)):
            if value != SERVER:
                self.refused(InvalidServer, row_of, ORDER, value, -1)
        for value in VALUES:
            if not isinstance(value, Program):
                self.refused(InvalidProgram, row_of, value, 5, 5)

    def test_row_of_agrees_with_runs(self):
        for seed in range(60):
            made = random_program(seeded(seed))
            dice = seeded(seed)
            outcomes = {command: dice.choice(made.book.outcomes(command)) for command in made.book}
            server = Server.steady(made.book, outcomes)
            run = PlainRun(made, server)
            run.go(many=40)
            row = tuple(entry[2] for entry in run.work if entry != KEPT)
            self.same(row_of(made, server, len(row)), row)
            if run.state == "ended":
                self.same(behind(made, row), (run.work, ("end", run.result)))
                self.same(row_of(made, server, 3000), row)

    def test_behind_against_a_second_reckoning(self):
        for seed in range(150):
            made = random_program(seeded(seed))
            for row in list(rows(made, 3))[:20]:
                work, thing, _ = walk_with(made, row)
                self.same(behind(made, row), (work, thing))
                self.assertIs(is_row_of(made, row), True)
                for outcome in ("failed", "ok", "x", "no"):
                    longer = row + (outcome,)
                    known = any(outcome in made.book.outcomes(command) for command in made.book)
                    fits = known and walk_with(made, longer)[2]
                    self.assertIs(is_row_of(made, longer), fits)
                    if not fits:
                        self.refused(InvalidRow, behind, made, longer)

    def test_behind_goes_on_without_a_further_outcome(self):
        self.same(behind(CAREFUL, ("ok",)), ((("new", (), "ok"), KEPT), ("try", "look", (0,))))
        self.same(behind(LOOP.replaced(2, ("last",)), ("ok",)), ((("new", (), "ok"), KEPT), ("end", "kept")))
        self.same(behind(ORDER, ()), ((), ("try", "new", ())))
        self.same(behind(Program(BOOK, ("last",)), ()), ((), ("end", None)))
        self.same(behind(Program(BOOK, MARK, ("last",)), ()), ((), ("end", "kept")))

    def test_rows_of_three_thousand_outcomes_and_one_more(self):
        self.same(len(behind(FOREVER, ("ok",) * 3000)[0]), 6000)
        self.assertIs(is_row_of(FOREVER, ("failed",) * 3000), True)
        self.assertIs(is_row_of(FOREVER, ("failed",) * 3001), False)
        self.keeps(TooMany, "limit", 3000, behind, FOREVER, ("failed",) * 3001)
        self.refused(InvalidRow, behind, FOREVER, ("failed",) * 3001 + ("room",))
        self.refused(InvalidRow, behind, CAREFUL, ("failed",) * 3001)
        self.same(runs.MAX_ROW, 3000)

    def test_values_that_are_no_rows(self):
        for value in VALUES + (["ok"], ("kept",), ("ok", 1), "ok", ("new",)):
            if value != ():
                self.refused(InvalidRow, behind, ORDER, value)
                self.assertIs(is_row_of(ORDER, value), False)
        for value in VALUES:
            if not isinstance(value, Program):
                self.refused(InvalidProgram, behind, value, 5)
                self.refused(InvalidProgram, is_row_of, value, 5)


if __name__ == "__main__":
    unittest.main()
