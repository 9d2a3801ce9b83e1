"""Columns of lines and runs: interface of stage 17."""

import unittest

from skipahead.ahead.forward import Forward
from skipahead.ahead.lost import Careful
from skipahead.errors import InvalidOperation
from skipahead.line.line import Line, sent
from skipahead.line.servers import Server
from skipahead.plain.programs import Program
from skipahead.plain.runs import PlainRun
from skipahead.send.judge import GuardedRun
from skipahead.send.senders import Sender, SenderRun
from skipahead.text.columns import columns, run_columns
from skipahead.text.formats import write_items
from tests.examples import BOOK, CAREFUL, ITEMS, LOOP, MARK, NEW, ORDER, QUICK, SERVER, VALUES
from tests.making import deep_program, seeded
from tests.oracle import rows
from tests.values import Case

DO = ("do", "new", (), None)
STEADY = Server.steady(BOOK, {"look": "room", "new": "ok", "put": "ok"})


def expected(line):
    """The strings for a line, put together anew."""
    found = []
    for index, (item, answer) in enumerate(zip(line.sequence, line.replies)):
        text = write_items((item,))
        found.append(" " * (3 - len(str(index))) + str(index) + "  " + text + " " * (24 - len(text)) + "  " + answer)
    return tuple(found)


class ColumnsTest(Case):
    def test_the_example_of_the_document(self):
        self.same(run_columns(Forward(CAREFUL, ("failed",))),
                  ("  0  send new                  failed", "  1  mark                      undone", "waiting, 0 waits, 1 entries"))

    def test_lines(self):
        self.same(columns(Line(BOOK)), ())
        line = sent(BOOK, ITEMS, ("failed", "room"))
        self.same(columns(line), ("  0  send new                  failed", "  1  send put 0 who            skipped",
                                  "  2  mark                      undone", "  3  send look 0               room"))
        line = sent(BOOK, (NEW, ("send", "put", (None, "abcdefgh")), ("send", "put", ("abcdefgh", "abcdefgh"))), ("ok", "ok", "ok"))
        self.same(columns(line)[2], "  2  send put abcdefgh abcdefgh  ok")
        self.same(columns(line)[1], "  1  send put - abcdefgh       ok")
        self.same(columns(line), expected(line))

    def test_more_than_a_thousand_items(self):
        line = sent(BOOK, (MARK,) * 1002 + (NEW, ("send", "look", (1002,))), ("ok", "full"))
        told = columns(line)
        self.same((len(told), told[9], told[99], told[999], told[1000]), (
            1004, "  9  mark                      kept", " 99  mark                      kept", "999  mark                      kept",
            "1000  mark                      kept"))
        self.same(told[1003], "1003  send look 1002            full")
        self.same(told, expected(line))

    def test_runs_of_each_kind(self):
        slow = Careful(LOOP, ("ok", "failed", "ok", "ok"), doubts=2, window=9)
        never = Program(BOOK, ("give", "more"))
        runs = {
            "ended: more, 1 waits, 5 entries": self.gone(Forward(ORDER, SERVER)),
            "ended: none, 0 waits, 1 entries": Forward(Program(BOOK, DO), STEADY),
            "ended: more, 0 waits, 0 entries": PlainRun(never, ()),
            "going, 3 waits, 2 entries": self.gone(PlainRun(ORDER, SERVER), 3),
            "paused, 1 waits, 1 entries": self.gone(PlainRun(ORDER, ("ok",)), 9),
            "ended: kept, 2 waits, 2 entries": self.gone(PlainRun(Program(BOOK, DO, MARK, ("last",)), STEADY), 9),
            "waiting, 0 waits, 3 entries": SenderRun(QUICK, SERVER),
            "stopped, 0 waits, 1 entries": SenderRun(QUICK, ("failed",), window=3),
            "paused, 0 waits, 1 entries": SenderRun(QUICK, ("ok",)),
            "ended: none, 0 waits, 0 entries": SenderRun(Sender(BOOK, ("go", 1)), ()),
            "ended: room, 1 waits, 4 entries": self.gone(GuardedRun(ORDER, QUICK, STEADY)),
            "waiting, 0 waits, 4 entries": slow,
            "waiting, 2 waits, 13 entries": self.gone(Careful(LOOP, STEADY, doubts=2, window=9), 2),
        }
        for text, run in runs.items():
            self.same(run_columns(run), expected(run.line) + (text,))

    def gone(self, run, many=1):
        run.go(many=many)
        return run

    def test_drawn_runs(self):
        for seed in range(60):
            made = deep_program(seeded(seed), 12)
            for row in list(rows(made, 3))[-3:]:
                for run in (PlainRun(made, row), Forward(made, row, window=3), SenderRun(Sender.plain(made), row)):
                    run.go(many=5)
                    told = run_columns(run)
                    self.same(told[:-1], expected(run.line))
                    result = "none" if run.result is None else run.result
                    state = f"ended: {result}" if run.state == "ended" else run.state
                    self.same(told[-1], f"{state}, {run.waits} waits, {len(run.work)} entries")

    def test_what_is_passed(self):
        for value in VALUES:
            if not isinstance(value, Line):
                self.refused(InvalidOperation, columns, value)
            if not isinstance(value, (PlainRun, Forward, SenderRun)):
                self.refused(InvalidOperation, run_columns, value)


if __name__ == "__main__":
    unittest.main()
