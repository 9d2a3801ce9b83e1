"""Forward runs [10.1], [0.19]."""

import unittest

from skipahead.ahead.forward import Forward
from skipahead.ahead.lists import forced_list
from skipahead.errors import (
    InvalidFacts, InvalidNumber, InvalidOperation, InvalidProgram, InvalidRow, InvalidServer, NothingToUndo, TooMany,
)
from skipahead.line.facts import Facts
from skipahead.line.line import Line
from skipahead.line.servers import Server
from skipahead.plain.programs import Program
from skipahead.plain.runs import PlainRun, behind
from tests.examples import BOOK, CAREFUL, LOOP, MARK, NEW, ORDER, SERVER, SURE, TABLE, TURNING, VALUES, numbers
from tests.making import random_facts, random_program, seeded
from tests.oracle import BadRow, rows
from tests.oracle_runs import ForwardModel
from tests.test_lists import LONG, WIDE
from tests.test_runs import TINY
from tests.values import Case

DO = ("do", "new", (), None)
STEADY = Server.steady(BOOK, {"look": "room", "new": "ok", "put": "ok"})


def told(run):
    """All that a run tells without arguments, but for what was passed."""
    return (run.line.sequence, run.line.replies, run.work, run.stand, run.pending, run.paper, run.state, run.result, run.waits,
            run.progress, len(run), str(run))


class StepsTest(Case):
    def test_the_examples_of_the_document(self):
        run = Forward(ORDER, SERVER)
        self.same([run.state, run.pending[3], run.paper[0], run.progress], ["waiting", ("send", "look", (0,)), "fork", (3,)])
        self.same([run.go(), run.stand, run.result, run.progress], ["ended", (6, ("who", 0), "open"), "more", (3, 5)])
        small = Forward(ORDER, ("ok", "ok", "room"), window=2)
        self.same([small.paper, small.go(many=9), small.waits, small.progress], [("full",), "ended", 2, (2, 4, 4)])
        self.same([small.line.sequence[3], small.undo(), small.stand], [("send", "look", (0,)), 1, (2, ("who", 0), "open")])

    def test_wait_by_wait_with_a_server(self):
        run = Forward(ORDER, SERVER)
        self.same((run.line.sequence, run.line.replies), ((NEW, ("send", "put", (0, "who")), MARK, ("send", "look", (0,))),
                                                          ("ok", "failed", "undone", "full")))
        self.same((run.stand, run.waits, run.result, str(run)), ((0, ("who", None), "fresh"), 0, None, "forward run behind 0 waits, waiting"))
        self.same(run.pending, forced_list(ORDER, run.stand, window=16))
        run.go()
        self.same((run.line.sequence[4:], run.pending, run.paper, run.waits), ((NEW, MARK), (NEW, MARK), ("ends", "more"), 1))
        self.same(str(run), "forward run behind 1 waits, ended")
        self.same((run.go(many=5), run.waits), ("ended", 1))

    def test_each_window(self):
        for window in range(1, 17):
            run = Forward(ORDER, SERVER, window=window)
            run.go(many=99)
            plain = PlainRun(ORDER, SERVER)
            plain.go(many=99)
            self.same((run.work, run.result, run.window), (plain.work, plain.result, window))
            self.same(run.waits, {1: 5, 2: 2, 3: 2}.get(window, 1))

    def test_against_a_second_reckoning(self):
        for seed in range(120):
            dice = seeded(seed)
            made = random_program(dice)
            facts = random_facts(dice, made.book)
            window = dice.choice((1, 2, 3, 4, 5))
            for row in dice.sample(list(rows(made, 4)), 1) * 2 + list(rows(made, 3))[-3:]:
                try:
                    model = ForwardModel(made, row, window, facts)
                except BadRow:
                    self.refused(InvalidRow, Forward, made, row, window=window, facts=facts)
                    continue
                self.check(Forward(made, row, window=window, facts=facts), model)

    def check(self, run, model):
        for _ in range(6):
            line = model.line()
            stand, listed, paper, state, _, _ = model.told[-1]
            self.same((run.line.sequence, run.line.replies, run.work), (line.items, line.replies, line.work))
            self.same((run.stand, run.pending, run.paper, run.state), (stand, listed, paper, state))
            self.same(run.progress, tuple(leg[5] for leg in model.told))
            self.same((run.waits, len(run)), (len(model.told) - 1, len(model.told) - 1))
            self.same(run.result, paper[1] if state == "ended" else None)
            self.assertEqual(run.line, run.twin().line)
            if state != "waiting":
                break
            before = told(run)
            try:
                model.wait()
            except BadRow:
                self.refused(InvalidRow, run.go)
                self.same(told(run), before)
                break
            run.go()

    def test_the_work_and_the_result_are_those_of_the_plain_run(self):
        ended = 0
        for seed in range(150):
            dice = seeded(seed)
            made = random_program(dice)
            for row in list(rows(made, 4))[-5:]:
                work, thing = behind(made, row)
                for window in (1, 3, 6):
                    run = Forward(made, row, window=window)
                    run.go(many=60)
                    if thing[0] == "end":
                        self.same((run.state, run.work, run.result), ("ended", work, thing[1]))
                        ended += 1
                    else:
                        self.same((run.state, run.work), ("paused", work[:len(run.work)]))
        self.assertGreater(ended, 200)

    def test_the_states_of_a_server(self):
        for made in (ORDER, CAREFUL, Program(BOOK, DO, MARK, ("if", "kept", 4), ("do", "look", ("x",), None), ("do", "new", (), "x"), MARK,
                                             ("do", "look", ("x",), None), MARK, ("do", "put", ("x", "x"), None), MARK, ("last",))):
            plain = PlainRun(made, TURNING)
            plain.go(many=99)
            for window in (1, 2, 16):
                run = Forward(made, TURNING, window=window)
                run.go(many=99)
                self.same((run.state, run.work, run.result), ("ended", plain.work, plain.result))
                waits = run.waits
                for many in range(waits + 1):
                    run.undo(many=many)
                    self.same((run.go(many=99), run.work), ("ended", plain.work))

    def test_a_greater_window_is_never_behind(self):
        for seed in range(60):
            made = random_program(seeded(seed))
            row = list(rows(made, 4))[-1]
            progress = [Forward(made, row, window=window) for window in (1, 2, 4, 8)]
            for run in progress:
                run.go(many=60)
            for one, other in zip(progress, progress[1:]):
                if one.state == "ended":
                    self.assertGreaterEqual(one.waits, other.waits)
                for less, more in list(zip(one.progress, other.progress))[:-1]:
                    self.assertLessEqual(less, more)

    def test_pauses(self):
        run = Forward(ORDER, ())
        self.same((run.state, run.line.sequence, run.progress, run.go(), run.waits), ("paused", (), (0,), "paused", 0))
        run = Forward(ORDER, ("ok",))
        self.same((run.state, len(run.line), run.pending[1]), ("paused", 1, ("send", "put", (0, "who"))))
        run = Forward(ORDER, ("failed",))
        self.same((run.state, run.line.replies), ("paused", ("failed", "skipped", "undone")))
        # Also where the paper is that of an end.
        run = Forward(ORDER, ("ok", "ok", "full"))
        self.same((run.state, run.go(), run.paper, run.result, run.stand), ("waiting", "paused", ("ends", "more"), None, (6, ("who", 0), "open")))
        self.same((run.progress, run.waits, run.go(many=3), str(run)), ((4, 4), 1, "paused", "forward run behind 1 waits, paused"))
        run = Forward(ORDER, ("ok", "ok", "full", "failed"))
        self.same((run.go(), run.result, run.progress), ("ended", "more", (4, 5)))

    def test_ends(self):
        run = Forward(Program(BOOK, ("give", "a")), ())
        self.same((run.state, run.result, run.pending, run.paper, run.stand, run.progress), ("ended", "a", (), ("ends", "a"), ("end", "a"), (0,)))
        run = Forward(Program(BOOK, DO), STEADY)
        self.same((run.state, run.result, run.waits), ("ended", None, 0))
        run = Forward(Program(BOOK, DO, ("last",)), STEADY)
        self.same((run.state, run.go(), run.result, run.pending, run.stand), ("waiting", "ended", "ok", (), ("end", "ok")))

    def test_arguments_on_the_line(self):
        made = Program(BOOK, ("do", "new", (), "x"), MARK, ("if", "undone", 6), ("do", "put", ("x", "who"), "y"), MARK, ("if", "kept", 7),
                       ("give", "no"), ("do", "put", ("y", "x"), None), parameters=("who",))
        run = Forward(made, STEADY)
        run.go(many=9)
        self.same(run.line.sequence, (NEW, MARK, ("send", "put", (0, "who")), MARK, ("send", "put", (2, 0))))
        self.same((run.stand, run.pending), ((7, ("who", 0, 1), "fresh"), (("send", "put", ("y", "x")),)))
        # An item whose command was not done is told by its index, what a register does not hold as None.
        run = Forward(ORDER, ("failed", "room"), window=4)
        self.same(run.line.sequence[3], ("send", "look", (0,)))
        run = Forward(ORDER, ("failed", "room"), window=3)
        run.go()
        self.same((run.line.sequence[3], run.pending), (("send", "look", (None,)), (("send", "look", (None,)),)))
        run = Forward(ORDER, ("ok", "ok", "room"), window=3)
        run.go()
        self.same((run.line.sequence[3], run.pending), (("send", "look", (0,)), (("send", "look", ("x",)),)))

    def test_facts(self):
        run = Forward(CAREFUL, STEADY, facts=SURE)
        self.same((run.facts, run.pending, run.waits), (SURE, (NEW, MARK, ("send", "look", (0,))), 0))
        self.same((run.go(), run.result, run.waits), ("ended", "room", 1))
        run = Forward(CAREFUL, STEADY)
        self.same((run.facts, run.go(many=9), run.waits), (None, "ended", 2))
        run = Forward(CAREFUL, STEADY, facts=Facts(BOOK, new=("ok",), look=("room",)))
        self.same((run.state, run.result, run.waits), ("ended", "room", 0))


class RefusedTest(Case):
    def test_what_is_passed(self):
        other = Server.steady(TINY, {"a": "ok"})
        for value in VALUES + (other, Facts(TINY), ("nothing",), ["ok"]):
            if not isinstance(value, Program):
                self.refused(InvalidProgram, Forward, value, 5, window=0, facts=5)
            if value not in ((), SERVER):
                self.refused(InvalidServer, Forward, ORDER, value, window=0, facts=5)
            if type(value) is not int or not 1 <= value <= 16:
                self.keeps(InvalidNumber, "value", value, lambda value=value: Forward(ORDER, SERVER, facts=5, window=value))
            if value is not None and not (isinstance(value, Facts) and value != Facts(TINY)):
                self.refused(InvalidFacts, Forward, ORDER, SERVER, facts=value)
        self.keeps(InvalidNumber, "value", 17, lambda: Forward(ORDER, SERVER, window=17))

    def test_a_server_that_does_not_obey(self):
        failing = Server.steady(BOOK, {"look": "room", "new": "failed", "put": "ok"})
        self.refused(InvalidOperation, Forward, CAREFUL, failing, facts=SURE)
        # Also in a state that is not reached, and ahead of too many fates.
        self.refused(InvalidOperation, Forward, CAREFUL, SERVER, facts=Facts(BOOK, look=("room",)))
        self.refused(InvalidOperation, Forward, LONG, Server.steady(WIDE, {"a": "x", "b": "failed"}), facts=Facts(WIDE, b=("x", "y", "z")))
        self.assertIs(type(Forward(CAREFUL, SERVER, facts=Facts(BOOK))), Forward)

    def test_wrong_outcomes(self):
        self.refused(InvalidRow, Forward, ORDER, ("room",))
        self.refused(InvalidRow, Forward, ORDER, ("ok", "ok", "ok"))
        run = Forward(ORDER, ("ok", "ok", "ok"), window=3)
        before = told(run)
        self.refused(InvalidRow, run.go)
        self.refused(InvalidRow, run.go, many=5)
        self.same(told(run), before)
        self.refused(InvalidRow, Forward, ORDER, ("failed",), facts=SURE)
        self.refused(InvalidRow, Forward, CAREFUL, ("ok", "full"), facts=Facts(BOOK, new=("ok",), look=("room",)))
        run = Forward(CAREFUL, ("ok", "full"), facts=Facts(BOOK, look=("room",)))
        before = told(run)
        self.refused(InvalidRow, run.go)
        self.same(told(run), before)
        # An outcome that is left over is none of a tried command.
        self.same(Forward(ORDER, ("failed", "room", "full"), window=16).go(), "ended")

    def test_too_many_fates(self):
        server = Server.steady(WIDE, {"a": "x", "b": "x"})
        self.keeps(TooMany, "limit", 3000, Forward, LONG, server)
        self.keeps(TooMany, "limit", 3000, Forward, LONG, ("x",) * 3)
        self.keeps(TooMany, "limit", 3000, Forward, LONG, ("x", "x"))
        self.same(Forward(LONG, server, window=6).go(many=9), "ended")
        later = Program(WIDE, ("do", "b", (), None), MARK, ("if", "undone", 19), *LONG.lines)
        run = Forward(later, server)
        before = told(run)
        self.keeps(TooMany, "limit", 3000, run.go)
        self.keeps(TooMany, "limit", 3000, lambda: run.go(many=4))
        self.same(told(run), before)
        # The fates are counted ahead of the items of the list.
        run = Forward(later, ("x", "x"))
        self.keeps(TooMany, "limit", 3000, run.go)

    def test_two_thousand_items(self):
        run = Forward(LOOP, STEADY, window=5)
        self.same((run.go(many=399), len(run.line), run.waits), ("waiting", 2000, 399))
        before = told(run)
        self.keeps(TooMany, "limit", 2000, run.go)
        self.same(told(run), before)
        run = Forward(LOOP, STEADY, window=16)
        self.keeps(TooMany, "limit", 2000, lambda: run.go(many=10 ** 59))
        self.same(run.waits, 0)
        run = Forward(LOOP, ("ok",) * 1000, window=16)
        self.same((run.go(many=124), run.go(many=500), len(run.line)), ("waiting", "paused", 2000))
        run = Forward(LOOP, ("ok",) * 1001, window=16)
        self.keeps(TooMany, "limit", 2000, lambda: run.go(many=500))
        run = Forward(LOOP, ("ok",) * 1000 + ("room",), window=16)
        self.refused(InvalidRow, run.go, many=500)

    def test_numbers(self):
        run = Forward(ORDER, SERVER)
        for value in numbers(10 ** 60):
            self.keeps(InvalidNumber, "value", value, lambda value=value: run.go(many=value))
            self.keeps(InvalidNumber, "value", value, lambda value=value: run.undo(many=value))
        self.same((run.go(many=0), run.waits), ("waiting", 0))


class UndoTest(Case):
    def test_undo_and_go_again(self):
        for seed in range(50):
            dice = seeded(seed)
            made = random_program(dice)
            row = list(rows(made, 4))[-1]
            run = Forward(made, row, window=dice.choice((1, 2, 3)))
            before = [told(run)]
            while run.state == "waiting" and len(run) < 9:
                run.go()
                before.append(told(run))
            for many in range(len(before)):
                twin = run.twin()
                self.same((twin.undo(many=many), told(twin)), (len(run) - many, before[len(run) - many]))
                twin.go(many=many)
                self.same(told(twin), before[-1])
                self.assertEqual(twin, run)
            self.keeps(NothingToUndo, "many", len(run) + 1, lambda: run.undo(many=len(run) + 1))
            self.same(told(run), before[-1])

    def test_undo_with_a_server_takes_its_state_back_too(self):
        run = Forward(ORDER, SERVER, window=2)
        run.go(many=9)
        before = told(run)
        self.same((run.undo(many=2), run.state, run.go(many=2)), (0, "waiting", "ended"))
        self.same(told(run), before)
        self.same((run.undo(), run.undo(many=0), run.undo(), run.go(many=9)), (1, 1, 0, "ended"))
        self.same(told(run), before)

    def test_trials_and_twins(self):
        run = Forward(ORDER, SERVER, window=2)
        run.go()
        before = told(run)
        with run.trial() as same:
            self.assertIs(same, run)
            run.go()
            with run.trial():
                run.undo(many=2)
            self.same(run.state, "ended")
        self.same(told(run), before)
        self.same(run.during(lambda same: (same.go(many=9), same.result)), ("ended", "more"))
        self.refused(ZeroDivisionError, run.during, lambda same: same.go() and 1 // 0)
        self.same(told(run), before)
        twin = run.twin()
        self.assertIs(type(twin), Forward)
        self.same((twin.program == ORDER, twin.server == SERVER, twin.window, twin.facts), (True, True, 2, None))
        twin.go()
        self.same((run.waits, twin.waits), (1, 2))
        run.undo()
        self.same((run.waits, twin.waits, twin.state), (0, 2, "ended"))
        self.assertEqual(Forward(CAREFUL, STEADY, facts=SURE).twin().facts, SURE)

    def test_equality(self):
        run = Forward(ORDER, SERVER)
        self.assertIs(run == Forward(ORDER, Server(BOOK, TABLE, start="a"), window=16), True)
        self.assertIs(run != Forward(ORDER, SERVER), False)
        for other in (Forward(ORDER, SERVER, window=15), Forward(ORDER, SERVER, facts=Facts(BOOK)), Forward(ORDER, ("ok",)),
                      Forward(CAREFUL, SERVER), PlainRun(ORDER, SERVER), ORDER):
            self.assertIs(run == other, False)
            self.assertIs(run != other, True)
        self.assertIs(Forward(CAREFUL, STEADY, facts=SURE) == Forward(CAREFUL, STEADY, facts=Facts(BOOK, new=("ok",))), True)
        self.assertIs(Forward(CAREFUL, STEADY, facts=Facts(BOOK)) == Forward(CAREFUL, STEADY), False)
        run.go()
        self.assertIs(run == Forward(ORDER, SERVER), False)
        for value in VALUES:
            self.assertIs(run == value, False)
            self.assertIs(value == run, False)
        self.refused(TypeError, iter, run)

    def test_what_is_returned_gives_no_access(self):
        run = Forward(ORDER, SERVER)
        line = run.line
        self.assertIs(type(line), Line)
        line.send(MARK)
        self.same((len(run.line), len(line)), (4, 5))
        self.assertEqual((run.program, run.server), (ORDER, SERVER))


if __name__ == "__main__":
    unittest.main()
