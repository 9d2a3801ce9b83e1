"""What shows whether a sender does the same as a program [12.1] to [12.3], [0.17]."""

import unittest

from skipahead.base.books import Book
from skipahead.errors import (
    InvalidFacts, InvalidNumber, InvalidProgram, InvalidRow, InvalidSender, InvalidServer, TooMany, Unlike,
)
from skipahead.line.facts import Facts
from skipahead.line.servers import Server
from skipahead.plain.programs import Program
from skipahead.plain.runs import behind
from skipahead.send import judge
from skipahead.send.judge import Guard, GuardedRun, does_same, is_same_paper, same_paper
from skipahead.send.senders import Sender, SenderRun, sender_behind
from tests.examples import BOOK, CAREFUL, LOOP, MARK, ORDER, QUICK, SERVER, SURE, VALUES
from tests.making import random_facts, random_program, seeded
from tests.making_senders import random_sender
from tests.oracle import KEPT, BadRow, rows, walk_with
from tests.oracle_runs import SenderModel
from tests.test_alike import deals
from tests.test_runs import TINY
from tests.values import Case

DO = ("do", "new", (), None)
SEND = ("send", "new", (), None)
READ = ("read",)
STEADY = Server.steady(BOOK, {"look": "room", "new": "ok", "put": "ok"})
PAPER = same_paper(ORDER, QUICK)
FIRST = (0, None, ("who", None), (), "fresh", (0, ("who", None)))


def as_paper(states):
    return ("same", tuple(sorted(states, key=repr)))


def sender(*lines, parameters=()):
    return Sender(BOOK, *lines, parameters=parameters)


class SameTest(Case):
    def yes(self, program, made, **more):
        self.assertIs(does_same(program, made, **more), True)
        paper = same_paper(program, made, **more)
        self.same(paper[0], "same")
        self.assertIs(is_same_paper(program, made, paper, **more), True)
        self.same(Guard.check(program, made, **more), paper)

    def no(self, program, made, many, **more):
        """Asserts that they are parted by a row of so many outcomes."""
        self.assertIs(does_same(program, made, **more), False)
        paper = same_paper(program, made, **more)
        self.same((paper[0], len(paper[1])), ("unlike", many))
        self.assertIs(is_same_paper(program, made, paper, **more), True)
        self.keeps(Unlike, "row", paper[1], lambda: Guard.check(program, made, **more))

    def test_the_examples_of_the_document(self):
        self.same([does_same(ORDER, QUICK), does_same(ORDER, Sender.plain(ORDER), window=1), same_paper(ORDER, QUICK, window=3)],
                  [True, True, ("unlike", ("failed",))])
        self.assertIn(FIRST, PAPER[1])
        self.refused(Unlike, GuardedRun, ORDER, QUICK.replaced(9, ("give", "more")), SERVER)

    def test_each_window(self):
        for window in range(1, 17):
            self.yes(ORDER, Sender.plain(ORDER), window=window)
            self.yes(CAREFUL, Sender.plain(CAREFUL), window=window)
            if window < 4:
                self.no(ORDER, QUICK, 1, window=window)
            else:
                self.yes(ORDER, QUICK, window=window)

    def test_facts(self):
        quick = sender(("send", "new", (), "x"), MARK, ("send", "look", ("x",), None), READ, READ, READ, ("last",))
        self.no(CAREFUL, quick, 1)
        self.no(CAREFUL, quick, 1, facts=Facts(BOOK))
        self.yes(CAREFUL, quick, facts=SURE)
        self.no(CAREFUL, quick, 1, facts=Facts(BOOK, look=("room",)))
        self.no(CAREFUL, quick.replaced(6, ("give", "room")), 2, facts=SURE)
        self.yes(CAREFUL, quick.replaced(6, ("give", "room")), facts=Facts(BOOK, new=("ok",), look=("room",)))
        self.no(CAREFUL, quick, 1, facts=SURE, window=1)

    def test_senders_that_differ_in_one_place(self):
        self.no(ORDER, QUICK.replaced(9, ("give", "more")), 2)
        self.no(ORDER, QUICK.replaced(0, ("send", "look", ("x",), "x")), 0)
        self.no(ORDER, QUICK.replaced(1, ("send", "put", ("who", "x"), None)), 1)
        self.no(ORDER, QUICK.replaced(2, ("go", 3)), 1)
        self.no(ORDER, QUICK.replaced(3, ("send", "look", ("who",), None)), 1)
        self.no(ORDER, QUICK.replaced(7, ("copy", "x", "x")), 2)
        self.no(ORDER, QUICK.replaced(7, MARK), 2)
        self.no(ORDER, QUICK.replaced(10, ("go", 10)), 2)
        self.no(ORDER, QUICK.replaced(11, ("go", 12)), 3)
        self.no(ORDER, QUICK.replaced(12, ("last",)), 3)
        self.yes(ORDER, QUICK.replaced(4, READ))
        # One that reads less, and one that copies about.
        self.yes(ORDER, Sender(BOOK, *QUICK.lines[:9], ("give", "room"), *QUICK.lines[10:12], READ, READ, ("give", "more"), parameters=("who",)))

    def test_stops_that_only_some_servers_bring_about(self):
        one = Program(BOOK, DO, MARK, ("give", "a"))
        self.yes(one, sender(SEND, MARK, ("give", "a")))
        self.no(one, sender(SEND, MARK, READ, READ, READ, ("give", "a")), 1)
        self.no(one, sender(SEND, MARK, READ, ("if", "ok", 5), READ, READ, ("give", "a")), 1)
        self.yes(one, sender(SEND, MARK, READ, ("if", "ok", 5), READ, ("give", "a")))
        self.no(one, sender(SEND, MARK, READ, ("if", "ok", 5), ("go", 4), ("give", "a")), 1)
        self.no(one, sender(SEND, MARK, READ, ("if", "ok", 5), ("go", 3), ("give", "a")), 1)
        self.no(one, sender(("go", 0)), 0)
        self.no(one, sender(READ), 0)
        # Marks in fresh deals do no harm.
        self.yes(one, sender(MARK, MARK, SEND, MARK, MARK, ("give", "a")))
        # What is sent in a broken deal does no harm.
        self.yes(one, sender(SEND, READ, ("if", "ok", 6), ("send", "put", ("x", "y"), "x"), ("send", "look", ("x",), None), MARK, MARK, ("give", "a")))
        # The end may be that in a broken deal.
        self.yes(one, sender(SEND, READ, ("if", "failed", 4), MARK, ("give", "a")))

    def test_without_end(self):
        self.yes(LOOP, sender(SEND, MARK, READ, READ, ("go", 0)))
        self.yes(LOOP, sender(SEND, MARK, SEND, READ, READ, MARK, READ, READ, ("go", 0)))
        self.no(LOOP, sender(SEND, MARK, ("go", 0)), 1, window=2)
        self.no(LOOP, sender(SEND, MARK, ("go", 0)), 8)
        self.no(LOOP, sender(SEND, MARK, READ, READ, ("go", 2)), 1)

    def test_rounds_in_which_a_command_is_tried_are_no_silent_ones(self):
        # The last outcome in ascending order is an answer in one book, and "failed" in the other one.
        for answer in ("a", "ok"):
            book = Book(c=(0, (answer,)))
            made = Program(book, ("do", "c", (), None), MARK, ("go", 0))
            other = Sender(book, ("send", "c", (), None), MARK, READ, READ, ("go", 0))
            self.yes(made, other)
            self.yes(made, other, facts=Facts(book, c=(answer,)))

    def test_copies(self):
        made = Program(BOOK, ("do", "new", (), "x"), ("do", "new", (), "y"), MARK, ("do", "put", ("x", "y"), None))
        lines = (("send", "new", (), "a"), ("copy", "b", "a"), ("send", "new", (), "a"), MARK)
        self.yes(made, sender(*lines, ("send", "put", ("b", "a"), None)))
        self.no(made, sender(*lines, ("send", "put", ("a", "b"), None)), 2)
        self.no(made, sender(*lines, ("copy", "b", "a"), ("send", "put", ("b", "a"), None)), 2)
        self.no(made, sender(*lines, ("copy", "b", None), ("send", "put", ("b", "a"), None)), 2)
        named = Program(BOOK, ("do", "look", ("p",), None), ("do", "look", ("p",), None), parameters=("p",))
        self.yes(named, sender(("copy", "a", "p"), ("send", "look", ("a",), "p"), ("send", "look", ("a",), None), parameters=("p",)))

    def test_values_that_change_places_without_end(self):
        # To and fro, with two values that nothing else needs.
        made = Program(BOOK, ("do", "new", (), "x"), ("do", "new", (), "x"))
        swap = (("copy", "z", "x"), ("copy", "x", "y"), ("copy", "y", "z"), ("copy", "z", None))
        self.no(made, sender(("send", "new", (), "x"), ("send", "new", (), "y"), *swap, ("go", 2)), 1)
        self.no(made, sender(("send", "new", (), "x"), ("send", "new", (), "y"), *swap, ("go", 2)), 2, facts=SURE)
        self.yes(made, sender(("send", "new", (), "x"), ("send", "new", (), "y"), *swap, *swap))
        self.same(sender_behind(sender(("send", "new", (), "x"), ("send", "new", (), "y"), *swap, ("go", 2)), ("ok", "ok"))[1], ("stop", "round"))

    def test_against_a_second_reckoning(self):
        seen = {"same": 0, "unlike": 0}
        for seed in range(200):
            dice = seeded(seed)
            made = random_program(dice)
            facts = random_facts(dice, made.book)
            window = dice.choice((1, 2, 4, 16))
            other = random_sender(dice, made)
            paper = same_paper(made, other, window=window, facts=facts)
            seen[paper[0]] += 1
            self.assertIs(is_same_paper(made, other, paper, facts=facts, window=window), True)
            self.assertIs(does_same(made, other, facts=facts, window=window), paper[0] == "same")
            shortest = None
            for row in rows(made, 3):
                parts = self.parts(made, other, row, window, facts)
                self.assertIs(is_same_paper(made, other, ("unlike", row), window=window, facts=facts), parts)
                shortest = row if parts and shortest is None else shortest
            if paper[0] == "unlike" and len(paper[1]) <= 3:
                self.same(len(paper[1]), len(shortest))
            else:
                self.assertIsNone(shortest)
        self.assertGreater(min(seen.values()), 40)

    def parts(self, made, other, row, window, facts):
        """Whether a row of a program is one of a sender, too, obeys the facts, and what is behind it differs."""
        work, thing, _ = walk_with(made, row)
        try:
            model = SenderModel(other, row, window)
        except BadRow:
            return False
        if model.used < len(row) or (model.work, model.thing) == (work, thing):
            return False
        entries = [entry for entry in work + model.work if entry != KEPT]
        return facts is None or all(outcome in facts.outcomes(command) for command, _, outcome in entries)

    def test_three_thousand_states_and_more(self):
        made = deals("xypxypxypxy")
        plain = Sender.plain(made)
        paper = same_paper(made, plain)
        self.same(paper[0], "same")
        self.assertGreater(len(paper[1]), 300)
        first, second = deals("xypxypxypxy"), Sender.plain(deals("xpypxyxyp"))
        for call in (does_same, same_paper, Guard.check, lambda *two: GuardedRun(*two, 5)):
            self.keeps(TooMany, "limit", 3000, call, first, second)
        self.same(judge.MAX_SAME_STATES, 3000)
        # Also if they differ; but a row of one's own still shows that.
        wrong = Sender.of(made.book, (("send", "c", (), None), READ, ("if", "failed", 6), MARK, READ, ("go", 7), ("last",)) + tuple(
            (line[:-1] + (line[-1] + 7,) if line[0] in ("if", "go") else line) for line in second.lines), parameters=("p",))
        paper = ("unlike", ("failed",))
        self.assertIs(is_same_paper(first, wrong, paper), True)

    def test_just_three_thousand_states(self):
        made = Program(BOOK, *[("do", "look", ("p",), None)] * 3, ("give", "a"), parameters=("p",))

        def made_sender(many):
            """A sender whose state at a line behind its third item can be one of fifteen."""
            lines = [("copy", "x", "x")] * many + [("send", "look", ("p",), None)] * 3 + [("copy", "x", "x")] * 198 + [("give", "a")]
            return sender(*lines, parameters=("p",))
        self.same(len(same_paper(made, made_sender(0))[1]), 11 + 15 * 199)
        self.same(len(same_paper(made, made_sender(4))[1]), 3000)
        self.keeps(TooMany, "limit", 3000, same_paper, made, made_sender(5))
        self.assertIs(does_same(made, made_sender(5), facts=Facts(BOOK, look=("full",))), True)

    def test_many_same_states(self):
        # As many states as there are lines that go on silently.
        made = Program(BOOK, ("give", "a"))
        lines = [("copy", "x", "y")] * 399 + [("give", "a")]
        self.same(len(same_paper(made, sender(*lines))[1]), 400)
        self.no(made, sender(*lines[:399], ("go", 0)), 0)


class PaperTest(Case):
    def test_just_the_reached_states_ascending(self):
        made = Program(BOOK, ("do", "new", (), "x"))
        other = sender(("send", "new", (), "y"), READ)
        self.same(same_paper(made, other), ("same", (
            (0, None, (None,), (), "fresh", (0, (None,))), (1, None, (0,), ("ok",), "open", ("end", None)),
            (1, None, (None,), ("failed",), "broken", ("end", None)), (2, "failed", (None,), (), "broken", ("end", None)),
            (2, "ok", (0,), (), "open", ("end", None)))))
        # A class stands in both, first where the sender holds it.
        made = Program(BOOK, ("do", "new", (), "x"), ("do", "new", (), "y"), ("do", "put", ("y", "x"), None))
        other = sender(("send", "new", (), "b"), ("send", "new", (), "a"), ("send", "put", ("a", "b"), None))
        self.assertIn((2, None, (0, 1), ("ok", "ok"), "open", (2, (1, 0))), same_paper(made, other)[1])

    def test_closed_lists_with_more_states(self):
        more = [
            (9, None, (None, None), (), "fresh", ("end", "room")), (9, "room", (0, 0), (), "open", ("end", "room")),
            (9, "kept", ("who", "who"), ("full",) * 16, "broken", ("end", "room")), (9, "ok", (0, 1), (), "broken", ("end", "room")),
            (12, "undone", (None, 0), (), "open", ("end", "more")),
        ]
        self.assertIs(is_same_paper(ORDER, QUICK, as_paper(PAPER[1] + tuple(more))), True)
        for at in range(len(more)):
            self.assertIs(is_same_paper(ORDER, QUICK, as_paper(PAPER[1] + (more[at],))), True)
        # A state with more unread than the window, at which nothing is sent.
        few = same_paper(ORDER, Sender.plain(ORDER), window=1)
        state = (9, "full", ("who", None), ("ok",) * 9, "fresh", ("end", "room"))
        self.same(Sender.plain(ORDER)[9], ("give", "room"))
        self.assertIs(is_same_paper(ORDER, Sender.plain(ORDER), as_paper(few[1] + (state,)), window=1), True)

    def test_lists_that_lack_a_state(self):
        for made, other in ((ORDER, QUICK), (CAREFUL, Sender.plain(CAREFUL)), (LOOP, Sender.plain(LOOP))):
            kind, states = same_paper(made, other)
            for at in range(len(states)):
                self.assertIs(is_same_paper(made, other, (kind, states[:at] + states[at + 1:])), False)
        self.assertIs(is_same_paper(ORDER, QUICK, ("same", ())), False)

    def test_lists_with_a_state_at_which_it_does_not_go_on_well(self):
        for state in ((9, None, (None, None), (), "fresh", ("end", "more")), (4, None, (None, None), (), "fresh", ("end", "more")),
                      (0, None, (None, None), (), "fresh", ("end", "more")), (0, None, (None, None), ("ok",) * 16, "broken", ("end", "more")),
                      (13, None, (None, None), (), "fresh", ("end", "more")), (2, None, (None, None), (), "open", (0, (None, None))),
                      (1, None, ("who", 0), (), "open", (1, ("who", 1))), (11, None, (None, None), (), "open", ("end", "more"))):
            self.assertIs(is_same_paper(ORDER, QUICK, as_paper(PAPER[1] + (state,))), False)

    def test_lists_in_which_silent_steps_lead_back(self):
        made = Program(BOOK, ("give", "a"))
        other = sender(("give", "a"), ("go", 2), ("go", 1), ("go", 3))
        right = same_paper(made, other)
        self.same(right, ("same", ((0, None, (), (), "fresh", ("end", "a")),)))

        def at(line):
            return (line, None, (), (), "fresh", ("end", "a"))
        self.assertIs(is_same_paper(made, other, as_paper(right[1] + (at(1), at(2)))), False)
        self.assertIs(is_same_paper(made, other, as_paper(right[1] + (at(3),))), False)
        self.assertIs(is_same_paper(made, other, as_paper(right[1] + (at(1),))), False)
        longer = sender(("give", "a"), ("go", 0))
        self.assertIs(is_same_paper(made, longer, as_paper(right[1] + (at(1),))), True)
        # A way into a round is not one that leads back, but the round is.
        round_ = sender(("give", "a"), ("go", 2), ("go", 2))
        self.assertIs(is_same_paper(made, round_, as_paper(right[1] + (at(1), at(2)))), False)
        # With a kept deal in between, one may come back.
        loop = sender(SEND, MARK, READ, READ, ("go", 0))
        self.assertIs(is_same_paper(LOOP, loop, same_paper(LOOP, loop)), True)

    def test_order_and_repetitions(self):
        kind, states = PAPER
        for wrong in (states[::-1], states + states[-1:], states[:1] + states, states[1:2] + states[:1] + states[2:], list(states)):
            self.assertIs(is_same_paper(ORDER, QUICK, (kind, wrong)), False)

    def test_rows_that_show_it_and_rows_that_do_not(self):
        other = QUICK.replaced(9, ("give", "more"))
        for row, shows in ((("ok", "ok", "room"), True), (("failed", "room"), True), (("failed", "failed"), True), (("failed", "full"), False),
                           (("failed", "full", "ok"), False), ((), False), (("failed",), False), (("ok", "failed", "room"), True)):
            self.assertIs(is_same_paper(ORDER, other, ("unlike", row)), shows)
            self.assertIs(is_same_paper(ORDER, QUICK, ("unlike", row)), False)
            self.assertIs(is_same_paper(ORDER, other, ("unlike", row), facts=SURE), shows and row[0] == "ok")
            self.assertIs(is_same_paper(ORDER, other, ("same", row)), False)
        for row in (("room",), ("failed", "room", "ok"), ["failed", "room"], "ok", None, ("ok", "ok", "room", "ok")):
            self.assertIs(is_same_paper(ORDER, other, ("unlike", row)), False)
        self.assertIs(is_same_paper(ORDER, QUICK, ("unlike", ("failed",)), window=3), True)
        self.assertIs(is_same_paper(ORDER, QUICK, ("unlike", ("failed", "full")), window=3), False)
        # The facts have to leave the outcomes in both works.
        made, wrong = Program(BOOK, DO), sender(("send", "put", ("x", "x"), None))
        facts = Facts(BOOK, put=("ok",))
        self.same(same_paper(made, wrong, facts=facts), ("unlike", ()))
        self.assertIs(is_same_paper(made, wrong, ("unlike", ("ok",)), facts=facts), True)
        self.assertIs(is_same_paper(made, wrong, ("unlike", ("failed",)), facts=facts), False)
        self.assertIs(is_same_paper(made, wrong, ("unlike", ("failed",))), True)
        self.assertIs(is_same_paper(LOOP, sender(("send", "new", (), None), READ, MARK, READ, ("go", 0)), ("unlike", ("ok",) * 3001)), False)

    def test_values_near_states(self):
        right = (9, "room", ("who", 0), ("ok",), "open", ("end", "room"))
        self.assertIs(is_same_paper(ORDER, QUICK, as_paper(PAPER[1] + (right,))), True)

        def no(state):
            states = sorted(PAPER[1] + (state,), key=repr)
            self.assertIs(is_same_paper(ORDER, QUICK, ("same", tuple(states))), False, state)
        for value in VALUES + ("nothing", "new", "who", ("who",), ("failed", "new"), ("end", "room", 1), ("End", "room")):
            for at in range(6):
                changed = right[:at] + (value,) + right[at + 1:]
                answer = isinstance(value, str) and value in ("full", "room", "ok", "failed", "kept", "skipped", "undone")
                if at == 1 and (answer or value is None):
                    continue
                if at == 3 and isinstance(value, tuple) and all(one in ("ok", "kept", "failed", "undone", "room", "full") for one in value):
                    continue
                no(changed)
            no(right + (value,))
            if value is not None and value != "who" and not (type(value) is int and value == 0):
                no(right[:2] + (("who", value),) + right[3:])
            if value not in ("full", "room", "ok", "failed", "kept"):
                no(right[:3] + (("ok", value),) + right[4:])
        no(right[:5])
        no(list(right))
        no((14,) + right[1:])
        no(right[:2] + (("who", "x"),) + right[3:])
        no(right[:2] + (("who", 1),) + right[3:])
        no(right[:2] + (("who",),) + right[3:])
        no(right[:2] + (["who", 0],) + right[3:])
        no(right[:3] + (("ok",) * 17,) + right[4:])
        no(right[:3] + (["ok"],) + right[4:])
        no(right[:4] + ("closed", right[5]))

    def test_places_in_states(self):
        # Whether a state is one can be seen where the sender reads, as the place does not matter for that step.
        other = Sender(BOOK, *QUICK.lines, READ, ("give", "more"), parameters=("who",))
        held = ("who", 0)

        def accepted(place, deal):
            """Whether a closed list can have a state with this place where it reads and then gives a result."""
            states = [(13, None, held, ("ok",), deal, place), (14, "ok", held, (), deal, place)]
            return is_same_paper(ORDER, other, as_paper(PAPER[1] + tuple(states)))
        for deal in ("fresh", "open", "broken"):
            self.assertIs(accepted(("end", "more"), deal), True)
            self.assertIs(accepted(("end", "room"), deal), False)
            self.assertIs(accepted((0, ("who", 0)), deal), False)
        self.assertIs(accepted(("end", "more"), "closed"), False)

    def test_states_that_are_not_reached_and_go_on_without_end(self):
        loop = sender(SEND, MARK, READ, READ, ("go", 0))
        paper = same_paper(LOOP, loop)
        place = (0, ())
        more = [
            (4, "room", (), (), "fresh", place), (0, "room", (), (), "fresh", place), (1, "room", (), ("failed",), "broken", place),
            (1, "room", (), ("ok",), "open", (1, ())), (2, "room", (), ("failed", "undone"), "fresh", place),
            (2, "room", (), ("ok", "kept"), "fresh", place),
        ]
        self.assertIs(is_same_paper(LOOP, loop, as_paper(paper[1] + tuple(more))), True)
        for at, state in enumerate(more):
            less = more[:at] + more[at + 1:]
            self.assertIs(is_same_paper(LOOP, loop, as_paper(paper[1] + tuple(less))), at == 0)
            for other in ((1, ()), (2, ()), (3, ()), ("end", None), (0, (None,)), (0, []), (0,), (False, ()), 0):
                if other != state[5]:
                    changed = less + [state[:5] + (other,)]
                    self.assertIs(is_same_paper(LOOP, loop, as_paper(paper[1] + tuple(changed))), False, changed)

    def test_values_that_are_no_papers(self):
        for value in VALUES + (PAPER + (1,), list(PAPER), PAPER[1], ("same", PAPER), ("unlike", PAPER[1]), ("same",), ("Same", PAPER[1])):
            self.assertIs(is_same_paper(ORDER, QUICK, value), value == PAPER)
            self.assertIs(is_same_paper(ORDER, QUICK, ("same", value)), value == PAPER[1])
            self.assertIs(is_same_paper(ORDER, QUICK, ("same", (value,))), False)
            self.assertIs(is_same_paper(ORDER, QUICK, ("unlike", value)), False)
            self.assertIs(is_same_paper(ORDER, QUICK, (value, PAPER[1])), False)


class GuardTest(Case):
    def test_a_guarded_run(self):
        run = GuardedRun(ORDER, QUICK, SERVER)
        self.assertIsInstance(run, SenderRun)
        self.assertIsInstance(run, Guard)
        self.assertIs(is_same_paper(ORDER, QUICK, run.paper), True)
        self.same((run.state, run.window, run.go(), run.result, run.waits), ("waiting", 16, "ended", "more", 1))
        self.same((str(run), run.undo(), len(run)), ("sender run at line 12 behind 1 waits, ended", 0, 0))
        self.assertEqual((run.sender, run.server), (QUICK, SERVER))

    def test_equality(self):
        run = GuardedRun(ORDER, QUICK, SERVER)
        self.assertIs(run == SenderRun(QUICK, SERVER), True)
        self.assertIs(SenderRun(QUICK, SERVER) == run, True)
        self.assertIs(run == GuardedRun(ORDER, QUICK, SERVER, facts=SURE), True)
        self.assertIs(run == GuardedRun(ORDER, QUICK, SERVER, window=9), False)
        self.assertIs(run == GuardedRun(ORDER, QUICK, ("ok",)), False)
        run.go()
        self.assertIs(run == SenderRun(QUICK, SERVER), False)

    def test_twins(self):
        run = GuardedRun(ORDER, QUICK, SERVER, window=5)
        run.go()
        twin = run.twin()
        self.assertIs(type(twin), GuardedRun)
        self.assertEqual(twin, run)
        self.same((twin.paper, twin.window, twin.state, twin.line == run.line), (run.paper, 5, "ended", True))
        twin.undo()
        self.same((len(run), len(twin), twin.state, twin.go(), twin.result), (1, 0, "waiting", "ended", "more"))
        with run.trial() as same:
            same.undo()
            self.same(len(run), 0)
        self.same((len(run), run.during(lambda same: same.undo())), (1, 0))

    def test_a_guard_is_made_and_asked(self):
        self.same(Guard().check(ORDER, QUICK), PAPER)
        self.assertIs(type(Guard()), Guard)
        self.keeps(Unlike, "row", ("failed",), lambda: Guard.check(ORDER, QUICK, window=3))
        self.refused(TypeError, Guard, 1)

    def test_errors_of_check_come_first(self):
        wrong = QUICK.replaced(9, ("give", "more"))
        self.refused(Unlike, GuardedRun, ORDER, wrong, 5)
        self.refused(InvalidServer, GuardedRun, ORDER, QUICK, 5)
        self.refused(InvalidServer, GuardedRun, ORDER, QUICK, Server.steady(TINY, {"a": "ok"}))
        self.refused(InvalidRow, GuardedRun, ORDER, QUICK, ("room",))
        self.refused(InvalidFacts, GuardedRun, ORDER, QUICK, 5, facts=5)
        self.refused(InvalidNumber, GuardedRun, ORDER, QUICK, 5, facts=5, window=0)
        # The server of a guarded run need not obey the facts.
        self.same(GuardedRun(ORDER, QUICK, ("failed", "room"), facts=SURE).go(), "ended")


class RefusedTest(Case):
    def test_what_is_passed(self):
        wider = Sender(BOOK | Book(zz=(0, ("ok",))), *QUICK.lines, parameters=("who",))
        others = (wider, Sender(BOOK, *QUICK.lines), Sender(BOOK, *QUICK.lines, parameters=("who", "x")), Sender.plain(CAREFUL), ORDER)
        calls = (does_same, same_paper, Guard.check, lambda *two, **more: is_same_paper(*two, 5, **more),
                 lambda *two, **more: GuardedRun(*two, 5, **more))
        for call in calls:
            for value in VALUES + others:
                if not isinstance(value, Program):
                    self.refused(InvalidProgram, call, value, 5, window=0, facts=5)
                if not (isinstance(value, Sender) and value.book == BOOK and value.parameters == ("who",)):
                    self.refused(InvalidSender, call, ORDER, value, window=0, facts=5)
                if type(value) is not int or not 1 <= value <= 16:
                    caught = self.refused(InvalidNumber, call, ORDER, QUICK, facts=5, window=value)
                    self.assertIs(caught.value, value)
                if value is not None and not isinstance(value, Facts):
                    self.refused(InvalidFacts, call, ORDER, QUICK, window=3, facts=value)
            self.refused(InvalidFacts, call, ORDER, QUICK, facts=Facts(TINY))

    def test_behind_a_row_both_are_told(self):
        row = same_paper(ORDER, QUICK, window=3)[1]
        self.assertNotEqual(behind(ORDER, row), sender_behind(QUICK, row, window=3))
        self.same(SenderRun(QUICK, STEADY, window=3).reason, "full")


if __name__ == "__main__":
    unittest.main()
