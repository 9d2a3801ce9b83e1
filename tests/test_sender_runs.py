"""Runs of senders [0.16]."""

import unittest

from skipahead.errors import (
    InvalidNumber, InvalidRow, InvalidSender, InvalidServer, NothingToUndo, TooMany, UnknownName,
)
from skipahead.line.line import Line
from skipahead.line.servers import Server
from skipahead.plain.programs import Program
from skipahead.plain.runs import PlainRun, behind
from skipahead.send.senders import Sender, SenderRun, sender_behind
from tests.examples import BOOK, CAREFUL, MARK, ORDER, QUICK, SERVER, TABLE, TURNING, VALUES, numbers
from tests.making import random_program, seeded
from tests.making_senders import random_sender
from tests.oracle import BadRow, rows
from tests.oracle_runs import SenderModel
from tests.test_runs import TINY
from tests.values import Case

DO = ("do", "new", (), None)
SEND = ("send", "new", (), None)
READ = ("read",)
STEADY = Server.steady(BOOK, {"look": "room", "new": "ok", "put": "ok"})
LONG = Sender(BOOK, SEND, READ, MARK, READ, ("go", 0))


def told(run):
    """All that a run tells without arguments, but for what was passed."""
    return (run.work, run.line.sequence, run.line.replies, run.at, run.last, run.unread, run.state, run.result, run.reason, run.waits,
            run.progress, {name: run.held(name) for name in run.sender.registers}, len(run), str(run))


def model_told(model):
    """The same of a model."""
    text = f"sender run at line {model.at} behind {model.waits} waits, {model.state}"
    return (model.work, tuple(model.items), model.replies, model.at, model.last, model.unread, model.state, model.result, model.reason,
            model.waits, model.progress, model.held, model.waits, text)


class StepsTest(Case):
    def run_of(self, *lines, server=STEADY, window=16, many=0, parameters=()):
        run = SenderRun(Sender(BOOK, *lines, parameters=parameters), server, window=window)
        run.go(many=many)
        return run

    def test_the_examples_of_the_document(self):
        run = SenderRun(QUICK, SERVER)
        self.same([run.state, run.at, run.unread, run.go(), run.result, run.waits, run.progress, run.unread],
                  ["waiting", 4, 4, "ended", "more", 1, (3, 5), 2])
        self.same(sender_behind(QUICK, ("failed",), window=3), ((("new", (), "failed"),), ("stop", "full")))
        self.same(SenderRun(Sender.plain(CAREFUL), ("ok", "room")).go(many=3), "ended")
        self.same(str(SenderRun(QUICK, SERVER)), "sender run at line 4 behind 0 waits, waiting")

    def test_a_wait_brings_the_answers_to_all_items(self):
        run = self.run_of(SEND, SEND, READ, SEND, READ, READ, ("last",))
        self.same((run.state, run.at, run.unread, run.last), ("waiting", 2, 2, None))
        # The second answer has come, too; the third one has not.
        self.same((run.go(), run.at, run.last, run.unread, run.waits), ("waiting", 5, "ok", 1, 1))
        self.same((run.go(), run.at, run.last, run.unread, run.waits, run.progress), ("ended", 6, "ok", 0, 2, (2, 3, 3)))

    def test_stops(self):
        run = self.run_of(READ)
        self.same((run.state, run.reason, run.at, run.result, run.go(many=4), run.waits), ("stopped", "empty", 0, None, "stopped", 0))
        run = self.run_of(SEND, READ, READ, many=5)
        self.same((run.state, run.reason, run.at, run.waits), ("stopped", "empty", 2, 1))
        for line in (SEND, MARK):
            run = self.run_of(*[line] * 3, window=2)
            self.same((run.state, run.reason, run.at, run.unread), ("stopped", "full", 2, 2))
            run = self.run_of(*[line] * 3, window=3)
            self.same((run.state, run.reason, run.at, run.unread), ("ended", None, 3, 3))
        run = self.run_of(*[SEND] * 17)
        self.same((run.state, run.reason, run.at), ("stopped", "full", 16))

    def test_rounds(self):
        run = self.run_of(("go", 0))
        self.same((run.state, run.reason, run.at), ("stopped", "round", 0))
        run = self.run_of(("copy", "x", "y"), ("copy", "y", "p"), ("go", 1), parameters=("p",))
        self.same((run.state, run.reason, run.at), ("stopped", "round", 2))
        run = self.run_of(MARK, READ, ("go", 0), many=99)
        # There was no last answer at first, so it goes round once more.
        self.same((run.state, run.reason, run.at, run.waits, len(run.line)), ("stopped", "round", 2, 2, 2))
        run = self.run_of(MARK, ("go", 0), window=3)
        self.same((run.state, run.reason, run.at), ("stopped", "full", 0))
        run = self.run_of(READ, ("go", 0))
        self.same((run.state, run.reason), ("stopped", "empty"))
        run = self.run_of(SEND, ("if", "never", 0), ("go", 1))
        self.same((run.state, run.reason, run.at), ("stopped", "round", 1))

    def test_a_round_with_an_entry_of_work_in_between_goes_on(self):
        run = SenderRun(LONG, STEADY)
        self.same((run.go(many=50), run.reason, run.waits, run.progress[:5]), ("waiting", None, 50, (1, 2, 3, 4, 5)))
        run = SenderRun(LONG, ("ok", "failed", "ok", "failed"))
        self.same((run.go(many=99), run.at), ("paused", 0))

    def test_registers_count_by_origin_in_a_round(self):
        # Two values change places: all is as before only when they have changed them twice.
        swap = (("copy", "z", "x"), ("copy", "x", "y"), ("copy", "y", "z"), ("go", 2))
        run = self.run_of(("send", "new", (), "x"), ("send", "new", (), "y"), *swap)
        self.same((run.state, run.reason, run.at, [run.held(name) for name in "xyz"]), ("stopped", "round", 3, [0, 1, 0]))
        # Items that were skipped are all nothing.
        lines = (SEND, ("send", "new", (), "x"), ("send", "new", (), "y"), ("copy", "z", "x"), ("copy", "x", "y"), ("copy", "y", "z"), ("go", 3))
        run = self.run_of(*lines, server=("failed",))
        self.same((run.state, run.reason, run.at), ("stopped", "round", 3))

    def test_skipped_commands_without_end(self):
        run = self.run_of(("send", "new", (), "x"), READ, ("go", 0), server=("ok", "failed"), many=99)
        self.same((run.state, run.reason, run.at, run.waits, run.last), ("stopped", "round", 2, 4, "skipped"))
        self.same(run.work, (("new", (), "ok"), ("new", (), "failed")))

    def test_the_first_reason_that_applies(self):
        # At the second time in line 0 the window is full and all is as before but for what is unread.
        run = self.run_of(SEND, ("go", 0), window=1)
        self.same((run.reason, run.at), ("full", 0))

    def test_ends_while_items_are_not_read(self):
        run = self.run_of(SEND, MARK, SEND)
        self.same((run.state, run.result, run.at, run.unread, run.waits, run.progress), ("ended", None, 3, 3, 0, (3,)))
        run = self.run_of(SEND, MARK, ("last",))
        self.same((run.state, run.result, run.at), ("ended", None, 2))
        run = self.run_of(SEND, MARK, READ, ("last",), SEND, many=1)
        self.same((run.state, run.result, run.unread), ("ended", "ok", 1))

    def test_what_registers_hold(self):
        lines = (("send", "look", ("p",), "x"), ("copy", "y", "x"), ("copy", "x", "p"), ("send", "put", ("y", "x"), "p"), ("copy", "y", None), READ)
        run = self.run_of(*lines, parameters=("p",))
        self.same([run.held(name) for name in "pxy"], [1, "p", None])
        self.same(run.line.sequence, (("send", "look", ("p",)), ("send", "put", (0, "p"))))
        # A register holds an item whose answer has not come; its origin is nothing if it was not done.
        run = self.run_of(*lines, server=("failed",), parameters=("p",))
        self.same([run.held(name) for name in "pxy"], [None, "p", None])
        self.same((run.line.sequence[1], run.work), (("send", "put", (0, "p")), (("look", ("p",), "failed"),)))
        for value in VALUES + ("z",):
            self.keeps(UnknownName, "name", value, run.held, value)

    def test_pauses(self):
        run = self.run_of(SEND, SEND, READ, server=("ok",))
        self.same((run.state, run.at, run.go(many=3), run.waits, run.unread), ("paused", 1, "paused", 0, 1))
        run = self.run_of(SEND, READ, MARK, READ, SEND, server=("failed",), many=9)
        self.same((run.state, run.at, run.last, run.waits), ("paused", 4, "undone", 2))
        # It stops if the window is full, whatever the row has.
        run = self.run_of(SEND, SEND, server=("ok",), window=1)
        self.same((run.state, run.reason), ("stopped", "full"))
        # What is skipped needs no outcome.
        run = self.run_of(SEND, SEND, SEND, MARK, MARK, SEND, server=("failed",))
        self.same((run.state, run.at, run.line.replies), ("paused", 5, ("failed", "skipped", "skipped", "undone", "kept")))

    def test_against_a_second_reckoning(self):
        states = {}
        for seed in range(160):
            dice = seeded(seed)
            made = random_program(dice)
            for _ in range(3):
                sender = random_sender(dice, made)
                row = dice.choice(list(rows(made, 4))) + dice.choice(((), (), ("ok",), ("failed", "failed", "failed")))
                if not all(any(outcome in made.book.outcomes(command) for command in made.book) for outcome in row):
                    continue
                window = dice.choice((1, 2, 3, 4, 16))
                self.check(sender, row, window, states)
        self.assertTrue({"ended", "paused", "full", "empty", "wrong"} <= set(states), states)

    def check(self, sender, row, window, states):
        run = None
        for waits in range(5):
            try:
                model = SenderModel(sender, row, window, waits)
            except BadRow:
                states["wrong"] = True
                if run is None:
                    self.refused(InvalidRow, SenderRun, sender, row, window=window)
                else:
                    before = told(run)
                    self.refused(InvalidRow, run.go)
                    self.refused(InvalidRow, run.go, many=9)
                    self.same(told(run), before)
                self.refused(InvalidRow, sender_behind, sender, row, window=window)
                return
            if run is None:
                run = SenderRun(sender, row, window=window)
            else:
                run.go()
            self.same(told(run), model_told(model))
            states[run.reason or run.state] = True
            if run.state != "waiting":
                if model.used == len(row):
                    self.same(sender_behind(sender, row, window=window), (model.work, model.thing))
                else:
                    self.refused(InvalidRow, sender_behind, sender, row, window=window)
                return

    def test_the_plain_sender_does_what_the_program_does(self):
        for seed in range(100):
            made = random_program(seeded(seed))
            for row in list(rows(made, 4))[-6:]:
                for window in (1, 16):
                    self.same(sender_behind(Sender.plain(made), row, window=window), behind(made, row))
        run, plain = SenderRun(Sender.plain(ORDER), SERVER, window=1), PlainRun(ORDER, SERVER)
        for _ in range(6):
            self.same((run.last, run.waits), (plain.last, plain.waits))
            run.go()
            plain.go()
        self.same((run.state, run.result, run.line == plain.line, run.waits), ("ended", "more", True, 6))


    def test_the_states_of_a_server(self):
        for made in (ORDER, CAREFUL, Program(BOOK, DO, MARK, ("if", "kept", 4), ("do", "look", ("x",), None), ("do", "new", (), "x"), MARK,
                                             ("do", "look", ("x",), None), MARK, ("do", "put", ("x", "x"), None), MARK, ("last",))):
            plain, run = PlainRun(made, TURNING), SenderRun(Sender.plain(made), TURNING)
            plain.go(many=99)
            for many in (99, 1, 2, 3, 99):
                run.go(many=99)
                self.same((run.state, run.work, run.result, run.line == plain.line), ("ended", plain.work, plain.result, True))
                run.undo(many=min(many, run.waits))


class RefusedTest(Case):
    def test_what_is_passed(self):
        other = Server.steady(TINY, {"a": "ok"})
        for value in VALUES + (other, ("nothing",), ["ok"]):
            if not isinstance(value, Sender):
                self.refused(InvalidSender, SenderRun, value, 5, window=0)
                self.refused(InvalidSender, sender_behind, value, 5, window=0)
            if value not in ((), SERVER):
                self.refused(InvalidServer, SenderRun, QUICK, value, window=0)
            if value != ():
                self.refused(InvalidRow, sender_behind, QUICK, value, window=0)
            if type(value) is not int or not 1 <= value <= 16:
                self.keeps(InvalidNumber, "value", value, lambda value=value: SenderRun(QUICK, SERVER, window=value))
                self.keeps(InvalidNumber, "value", value, lambda value=value: sender_behind(QUICK, ("room",), window=value))
        self.keeps(InvalidNumber, "value", 17, lambda: SenderRun(QUICK, ("room",), window=17))
        self.refused(InvalidSender, SenderRun, ORDER, SERVER)

    def test_wrong_outcomes(self):
        self.refused(InvalidRow, SenderRun, QUICK, ("room",))
        self.refused(InvalidRow, SenderRun, QUICK, ("ok", "ok", "ok"))
        plain = Sender.plain(ORDER)
        run = SenderRun(plain, ("ok", "ok", "ok"))
        run.go()
        before = told(run)
        self.refused(InvalidRow, run.go, many=2)
        self.same(told(run), before)
        self.same((run.go(), run.at), ("waiting", 5))
        self.refused(InvalidRow, run.go)
        self.same((run.undo(many=2), run.at, run.last), (0, 1, None))

    def test_two_thousand_items(self):
        run = SenderRun(LONG, STEADY)
        self.same((run.go(many=1999), len(run.line)), ("waiting", 2000))
        before = told(run)
        self.keeps(TooMany, "limit", 2000, run.go)
        self.same(told(run), before)
        self.same((run.undo(many=5), run.go(many=5)), (1994, "waiting"))
        self.same(told(run), before)
        run = SenderRun(LONG, STEADY)
        self.keeps(TooMany, "limit", 2000, lambda: run.go(many=10 ** 59))
        self.same(run.waits, 0)
        run = SenderRun(LONG, ("ok",) * 1000)
        self.same((run.go(many=5000), len(run.line)), ("paused", 2000))
        run = SenderRun(LONG, ("ok",) * 1000 + ("room",))
        self.refused(InvalidRow, run.go, many=5000)
        run = SenderRun(LONG, ("ok",) * 1001)
        self.keeps(TooMany, "limit", 2000, lambda: run.go(many=5000))

    def test_numbers(self):
        run = SenderRun(QUICK, SERVER)
        for value in numbers(10 ** 60):
            self.keeps(InvalidNumber, "value", value, lambda value=value: run.go(many=value))
            self.keeps(InvalidNumber, "value", value, lambda value=value: run.undo(many=value))
        self.same((run.go(many=0), run.waits), ("waiting", 0))


class BehindTest(Case):
    def test_three_thousand_outcomes_and_one_more(self):
        self.same(len(sender_behind(LONG, ("ok",) * 3000)[0]), 6000)
        self.keeps(TooMany, "limit", 3000, sender_behind, LONG, ("failed",) * 3001)
        self.refused(InvalidRow, sender_behind, LONG, ("failed",) * 3001 + ("room",))
        self.refused(InvalidRow, sender_behind, QUICK, ("failed",) * 3001)

    def test_outcomes_left_over(self):
        self.same(sender_behind(QUICK, ("ok", "ok", "room"))[1], ("end", "room"))
        self.refused(InvalidRow, sender_behind, QUICK, ("ok", "ok", "room", "ok"))
        self.refused(InvalidRow, sender_behind, Sender(BOOK, READ), ("ok",))
        self.same(sender_behind(Sender(BOOK, READ), ()), ((), ("stop", "empty")))

    def test_things(self):
        self.same(sender_behind(QUICK, ()), ((), ("try", "new", ())))
        self.same(sender_behind(QUICK, ("ok",)), ((("new", (), "ok"),), ("try", "put", (0, "who"))))
        self.same(sender_behind(QUICK, ("failed",)), ((("new", (), "failed"),), ("try", "look", (None,))))
        self.same(sender_behind(Sender(BOOK, ("go", 0)), ()), ((), ("stop", "round")))
        self.same(sender_behind(Sender(BOOK, SEND, MARK, READ, READ, ("last",)), ("ok",)), ((("new", (), "ok"), ("kept",)), ("end", "kept")))


class UndoTest(Case):
    def test_undo_and_go_again(self):
        for seed in range(80):
            dice = seeded(seed)
            made = random_program(dice)
            sender = random_sender(dice, made)
            row = list(rows(made, 4))[-1]
            try:
                SenderModel(sender, row, 4, 9)
            except BadRow:
                continue
            run = SenderRun(sender, row, window=4)
            before = [told(run)]
            while run.state == "waiting" and len(run) < 9:
                run.go()
                before.append(told(run))
            for many in range(len(before)):
                twin = run.twin()
                self.same((twin.undo(many=many), told(twin)), (len(run) - many, before[len(run) - many]))
                twin.go(many=many)
                self.same(told(twin), before[-1])
                self.assertEqual(twin, run)
            self.keeps(NothingToUndo, "many", len(run) + 1, lambda: run.undo(many=len(run) + 1))
            self.same(told(run), before[-1])

    def test_a_round_is_found_behind_undo_too(self):
        run = SenderRun(Sender(BOOK, MARK, READ, ("go", 0)), STEADY)
        run.go(many=9)
        before = told(run)
        self.same((run.reason, run.undo(), run.state, run.reason, run.go()), ("round", 1, "waiting", None, "stopped"))
        self.same(told(run), before)
        self.same((run.undo(many=2), run.go(many=9)), (0, "stopped"))
        self.same(told(run), before)
        run.undo()
        twin = run.twin()
        self.same((twin.go(), told(twin)), ("stopped", before))

    def test_trials_and_twins(self):
        run = SenderRun(Sender.plain(ORDER), SERVER)
        run.go(many=2)
        before = told(run)
        with run.trial() as same:
            self.assertIs(same, run)
            run.go()
            with run.trial():
                run.undo(many=3)
            self.same(run.waits, 3)
        self.same(told(run), before)
        self.same(run.during(lambda same: (same.go(many=9), same.result)), ("ended", "more"))
        self.refused(ZeroDivisionError, run.during, lambda same: same.go() and 1 // 0)
        self.same(told(run), before)
        twin = run.twin()
        self.assertIs(type(twin), SenderRun)
        self.assertEqual((twin.sender, twin.server, twin.window), (run.sender, run.server, run.window))
        twin.go()
        self.same((run.waits, twin.waits), (2, 3))
        run.undo(many=2)
        self.same((run.waits, twin.waits), (0, 3))

    def test_equality(self):
        run = SenderRun(QUICK, SERVER)
        self.assertIs(run == SenderRun(QUICK, Server(BOOK, TABLE, start="a"), window=16), True)
        for other in (SenderRun(QUICK, SERVER, window=15), SenderRun(QUICK, ("ok",)), SenderRun(Sender.plain(ORDER), SERVER), QUICK):
            self.assertIs(run == other, False)
            self.assertIs(run != other, True)
        run.go()
        self.assertIs(run == SenderRun(QUICK, SERVER), False)
        for value in VALUES:
            self.assertIs(run == value, False)
            self.assertIs(value == run, False)
        self.refused(TypeError, iter, run)

    def test_what_is_returned_gives_no_access(self):
        run = SenderRun(QUICK, SERVER)
        line = run.line
        self.assertIs(type(line), Line)
        line.send(MARK)
        self.same((len(run.line), run.unread), (4, 4))
        self.assertEqual((run.sender, run.server, run.window), (QUICK, SERVER, 16))


if __name__ == "__main__":
    unittest.main()
