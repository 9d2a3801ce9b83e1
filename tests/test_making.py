"""Senders that are made, what they cost, and senders that are slower [14.1], [14.2], [0.19]."""

import unittest

from skipahead.ahead.forward import Forward
from skipahead.base.books import Book
from skipahead.errors import InvalidFacts, InvalidNumber, InvalidProgram, InvalidSender, TooMany, Unlike
from skipahead.line.facts import Facts
from skipahead.line.servers import Server
from skipahead.plain.programs import Program
from skipahead.plain.runs import PlainRun
from skipahead.send import senders
from skipahead.send.judge import does_same, same_paper
from skipahead.send.making import made_sender, making_cost, slower_row
from skipahead.send.senders import Sender, SenderRun
from tests.examples import BOOK, CAREFUL, LOOP, MARK, ORDER, QUICK, SERVER, SURE, VALUES
from tests.making import deep_program, random_facts, seeded
from tests.making_senders import random_sender
from tests.oracle import rows
from tests.oracle_ahead import allowed_rows, cost_model, is_slower, reached_model
from tests.test_lists import LONG
from tests.test_runs import TINY
from tests.values import Case

DO = ("do", "new", (), None)
READ = ("read",)


def drawn(seed, most=12):
    dice = seeded(seed)
    made = deep_program(dice, most)
    return dice, made, random_facts(dice, made.book), dice.choice((1, 2, 3, 4, 6, 16))


class CostTest(Case):
    def test_the_example_of_the_document(self):
        self.same(making_cost(CAREFUL), 43)

    def test_against_a_second_reckoning(self):
        many = 0
        for seed in range(150):
            dice, made, facts, window = drawn(seed)
            window = min(window, 4)
            self.same(making_cost(made, window=window, facts=facts), cost_model(reached_model(made, window, facts)))
            many += making_cost(made, window=window, facts=facts) > 60
        self.assertGreater(many, 20)

    def test_just_four_hundred_and_more(self):
        book = Book(c=(0, ("x", "y")), d=(0, ("x",)))
        c, d = ("do", "c", (), None), ("do", "d", (), None)
        made = Program(book, c, c, MARK, c, c, c, ("last",))
        self.same(making_cost(made, window=5), 400)
        self.assertIs(does_same(made, made_sender(made, window=5), window=5), True)
        made = Program(book, *[c] * 7, MARK, *[d] * 5, ("last",))
        self.same(making_cost(made, window=3), 401)
        self.keeps(TooMany, "limit", 400, lambda: made_sender(made, window=3))

    def test_too_many_fates_come_ahead_of_the_cost(self):
        later = Program(LONG.book, ("do", "b", (), None), MARK, ("if", "undone", 19), *LONG.lines)
        for call in (made_sender, making_cost):
            self.keeps(TooMany, "limit", 3000, call, LONG)
            self.keeps(TooMany, "limit", 3000, call, later)
        self.keeps(TooMany, "limit", 400, lambda: made_sender(later, window=6))
        self.assertGreater(making_cost(later, window=6), 400)


class MadeTest(Case):
    def test_the_examples_of_the_document(self):
        made = made_sender(ORDER, window=4)
        self.same([does_same(ORDER, made, window=4), SenderRun(made, SERVER, window=4).go(many=9)], [True, "ended"])
        self.same([slower_row(ORDER, QUICK), slower_row(CAREFUL, made_sender(CAREFUL)), slower_row(CAREFUL, Sender.plain(CAREFUL))],
                  [None, None, ("failed",)])

    def check(self, made, window, facts, servers):
        """Asserts that the made sender does what a forward run does; returns how many runs have ended."""
        sender = made_sender(made, window=window, facts=facts)
        self.assertLessEqual(len(sender), making_cost(made, window=window, facts=facts))
        try:
            self.assertIs(does_same(made, sender, window=window, facts=facts), True)
            self.assertIsNone(slower_row(made, sender, window=window, facts=facts))
        except TooMany:
            pass
        ended = 0
        for server in servers:
            ahead, hand = Forward(made, server, window=window, facts=facts), SenderRun(sender, server, window=window)
            ahead.go(many=20)
            hand.go(many=20)
            if ahead.state != "paused":
                self.same((hand.state, hand.work, hand.result, hand.progress), (ahead.state, ahead.work, ahead.result, ahead.progress))
                ended += ahead.state == "ended"
            else:
                self.same(hand.progress[:-1], ahead.progress[:-1])
        return ended

    def test_drawn_programs(self):
        ended = tried = copies = 0
        for seed in range(260):
            dice, made, facts, window = drawn(seed, 20)
            try:
                made_sender(made, window=window, facts=facts)
            except TooMany as error:
                self.assertIn(error.limit, (400, 3000))
                continue
            copies += any(line[0] == "copy" for line in made_sender(made, window=window, facts=facts))
            tables = []
            for _ in range(3):
                left = {name: dice.choice((facts or Facts(made.book)).outcomes(name)) for name in made.book}
                tables.append(Server.steady(made.book, left))
            rowed = list(allowed_rows(made, facts, 3))[-6:]
            ended += self.check(made, window, facts, tables + rowed)
            tried += 1
        self.assertGreater(tried, 230)
        self.assertGreater(copies, 1)
        self.assertGreater(ended, 300)

    def test_programs_of_each_kind(self):
        put = ("do", "put", ("x", "who"), "x")
        for lines, parameters in (
                ([("give", "a")], ()), ([("last",)], ()), ([MARK, MARK, ("last",)], ("who",)), ([DO], ()), ([DO, ("last",)], ()),
                ([DO, MARK, ("last",)], ()), ([DO, MARK] * 5 + [("last",)], ()), ([DO, MARK, ("go", 0)], ()),
                ([("do", "new", (), "x"), put, MARK, put, MARK, put, ("last",)], ("who",)),
                ([("do", "look", ("who",), "who"), MARK, ("if", "undone", 0), ("do", "put", ("who", "who"), None), MARK, ("last",)], ("who",)),
                ([("do", "put", ("x", "y"), "x"), ("if", "failed", 3), ("do", "look", ("x",), "y"), MARK, ("do", "put", ("y", "x"), None), ("last",)], ()),
                ([("do", "look", ("who",), "x"), ("if", "room", 5), ("do", "look", ("who",), "x"), MARK, ("go", 7), MARK, ("do", "new", (), "x"),
                  ("do", "put", ("x", "who"), "y"), MARK, ("do", "look", ("y",), None), ("last",)], ("who",))):
            made = Program(BOOK, *lines, parameters=parameters)
            tables = [Server.steady(BOOK, {"look": look, "new": new, "put": put}) for look in ("full", "room", "failed")
                      for new in ("ok", "failed") for put in ("ok", "failed")]
            for window in (1, 2, 3, 5, 16):
                if making_cost(made, window=window) > 400:
                    continue
                self.check(made, window, None, tables + list(rows(made, 3)))
                self.assertEqual(made_sender(made, window=window).parameters, parameters)

    def test_values_of_different_items_in_one_register(self):
        # Behind one list the register holds the first item, or the fourth one, or nothing.
        made = Program(BOOK, ("do", "new", (), "x"), MARK, ("do", "look", ("who",), None), ("if", "failed", 5), ("do", "new", (), "x"), MARK,
                       ("do", "put", ("x", "who"), "x"), MARK, ("do", "put", ("who", "x"), None), ("last",), parameters=("who",))
        copies = 0
        for window in range(1, 17):
            if making_cost(made, window=window) <= 400:
                self.check(made, window, None, list(rows(made, 5)))
                copies += any(line[0] == "copy" for line in made_sender(made, window=window))
        self.assertGreater(copies, 5)

    def test_senders_have_few_registers(self):
        for seed in range(100):
            _, made, facts, window = drawn(seed, 24)
            try:
                self.assertLessEqual(len(made_sender(made, window=window, facts=facts).registers), senders.MAX_REGISTERS)
            except TooMany:
                pass

    def test_what_is_passed(self):
        for call in (made_sender, making_cost):
            for value in VALUES + (Facts(TINY),):
                if not isinstance(value, Program):
                    self.refused(InvalidProgram, call, value, window=0, facts=5)
                if type(value) is not int or not 1 <= value <= 16:
                    self.keeps(InvalidNumber, "value", value, lambda: call(LONG, facts=5, window=value))
                if value is not None and not (isinstance(value, Facts) and value != Facts(TINY)):
                    self.refused(InvalidFacts, call, LONG, facts=value)


class SlowerTest(Case):
    def least(self, made, sender, window, facts, most):
        """The least of the shortest rows of up to so many outcomes along which a sender is slower."""
        found = [row for row in allowed_rows(made, facts, most) if is_slower(made, sender, row, window, facts)]
        return min(found, key=lambda row: (len(row), row), default=None)

    def agrees(self, made, sender, window, facts, most=3):
        row = slower_row(made, sender, window=window, facts=facts)
        expected = self.least(made, sender, window, facts, most)
        if row is not None and len(row) > most:
            self.assertIsNone(expected)
            self.assertIs(is_slower(made, sender, row, window, facts), True)
        else:
            self.same(row, expected)
        return row

    def test_plain_senders(self):
        seen = {}
        for seed in range(120):
            _, made, facts, window = drawn(seed, 10)
            row = self.agrees(made, Sender.plain(made), min(window, 6), facts)
            kind = None if row is None else len(row)
            seen[kind] = seen.get(kind, 0) + 1
        self.assertGreater(min(seen.get(kind, 0) for kind in (None, 1, 2)), 3)

    def test_other_senders(self):
        many = 0
        for seed in range(600):
            dice, made, facts, window = drawn(seed, 8)
            try:
                base = Sender.plain(made) if dice.randrange(2) else made_sender(made, window=window, facts=facts)
            except TooMany:
                continue
            other = random_sender(dice, made, base)
            if same_paper(made, other, window=window, facts=facts)[0] == "unlike":
                row = same_paper(made, other, window=window, facts=facts)[1]
                self.keeps(Unlike, "row", row, lambda: slower_row(made, other, window=window, facts=facts))
            else:
                many += self.agrees(made, other, window, facts) is not None
        self.assertGreater(many, 40)

    def test_senders_that_read_later_or_sooner(self):
        self.same(self.agrees(ORDER, Sender.plain(ORDER), 16, None), ("failed", "failed"))
        # Reading the first answer ahead of the last item costs a wait.
        lines = list(QUICK.lines)
        sooner = Sender(BOOK, *lines[:3], READ, lines[3], *lines[5:8], *lines[8:], parameters=("who",))
        self.same((does_same(ORDER, sooner), self.agrees(ORDER, sooner, 16, None)), (True, ("failed", "failed")))
        # Reading at the end, where no wait is needed.
        later = Sender(BOOK, *lines[:12], READ, READ, ("give", "more"), parameters=("who",))
        self.same(self.agrees(ORDER, later, 16, None, 4), ("failed", "full", "failed"))

    def test_waits_without_any_command(self):
        made = Program(BOOK, ("give", "a"))
        self.same(slower_row(made, Sender(BOOK, MARK, READ, ("give", "a"))), ())
        self.same(slower_row(made, Sender(BOOK, MARK, ("give", "a"))), None)

    def test_a_row_along_which_the_runs_have_paused(self):
        # The sender waits ahead of a mark that keeps a deal, and the program goes on for ever.
        slow = Sender(BOOK, ("send", "new", (), None), READ, MARK, READ, ("go", 0))
        self.same(self.agrees(LOOP, slow, 2, None), ("ok",))
        self.same(self.agrees(LOOP, slow, 2, SURE), ("ok",))
        self.same(self.agrees(LOOP, slow, 5, None), ("failed", "failed", "failed"))
        self.same(self.agrees(LOOP, slow, 1, None), None)
        self.same(self.agrees(LOOP, made_sender(LOOP, window=5), 5, None), None)

    def test_errors(self):
        quick = Sender.plain(ORDER)
        for value in VALUES + (Facts(TINY),):
            if not isinstance(value, Program):
                self.refused(InvalidProgram, slower_row, value, 5, window=0, facts=5)
            if not isinstance(value, Sender):
                self.refused(InvalidSender, slower_row, ORDER, value, window=0, facts=5)
            if type(value) is not int or not 1 <= value <= 16:
                self.keeps(InvalidNumber, "value", value, lambda: slower_row(ORDER, quick, facts=5, window=value))
            if value is not None and not (isinstance(value, Facts) and value != Facts(TINY)):
                self.refused(InvalidFacts, slower_row, ORDER, quick, facts=value)
        self.refused(InvalidSender, slower_row, ORDER, Sender.plain(CAREFUL))
        self.refused(InvalidSender, slower_row, LONG, quick)
        self.keeps(Unlike, "row", ("failed",), lambda: slower_row(ORDER, QUICK, window=3))
        # More than 3000 same states come ahead, then too many fates.
        self.keeps(TooMany, "limit", 3000, slower_row, LONG, Sender.plain(LONG))
        self.keeps(Unlike, "row", ("failed",), slower_row, LONG, Sender(LONG.book, ("send", "b", (), None), ("give", "a")))


if __name__ == "__main__":
    unittest.main()
