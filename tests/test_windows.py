"""Reached stands and windows [13.1]."""

import unittest

from skipahead.ahead import windows
from skipahead.ahead.forward import Forward
from skipahead.ahead.lists import first_stand
from skipahead.ahead.waits import wait_paper
from skipahead.ahead.windows import full_row, least_window, reached_stands
from skipahead.base.books import Book
from skipahead.errors import InvalidFacts, InvalidNumber, InvalidProgram, TooMany
from skipahead.line.facts import Facts
from skipahead.plain.programs import Program
from tests.examples import BOOK, CAREFUL, LOOP, MARK, ORDER, SURE, VALUES
from tests.making import deep_program, random_facts, seeded
from tests.oracle import rows
from tests.oracle_ahead import allowed_rows, reached_model
from tests.test_lists import DEALS, LONG, WIDE
from tests.test_runs import TINY
from tests.values import Case

DO = ("do", "new", (), None)


def come_to_full(program, row, window, facts):
    """Whether a forward run with a row comes to a full list, with just all outcomes of the row tried ahead of it."""
    run = Forward(program, row, window=window, facts=facts)
    tried = 0
    while run.state == "waiting":
        if run.paper == ("full",) and tried == len(row):
            return True
        tried = run.line.tried
        run.go()
    return run.paper == ("full",) and tried == len(row)


class ReachedTest(Case):
    def test_the_examples_of_the_document(self):
        self.same([len(reached_stands(CAREFUL)), reached_stands(CAREFUL)[:2]], [6, (("end", "failed"), ("end", "full"))])
        self.same([full_row(ORDER, window=3), least_window(ORDER)], [(), 4])
        self.same([least_window(LOOP), len(reached_stands(LOOP, window=5))], [None, 3])
        self.same(windows.MAX_STANDS, 3000)

    def test_against_a_second_reckoning(self):
        many = 0
        for seed in range(110):
            dice = seeded(seed)
            made = deep_program(dice, 12)
            facts = random_facts(dice, made.book)
            window = dice.choice((1, 2, 3, 4, 5))
            found = reached_model(made, window, facts)
            self.same(reached_stands(made, window=window, facts=facts), tuple(sorted(found, key=repr)))
            many += len(found)
            fulls = [paper for _, paper, _ in found.values() if paper == ("full",)]
            self.assertIs(full_row(made, window=window, facts=facts) is not None, bool(fulls))
        self.assertGreater(many, 400)

    def test_long_programs_with_each_window(self):
        for seed in range(60):
            dice = seeded(1000 + seed)
            made = deep_program(dice, 24)
            facts = random_facts(dice, made.book)
            for window in range(1, 17):
                try:
                    found = reached_stands(made, window=window, facts=facts)
                except TooMany:
                    continue
                self.same(found, tuple(sorted(set(found), key=repr)))
                self.assertIn(first_stand(made), found)
                for row in list(rows(made, 3))[-3:]:
                    if row in list(allowed_rows(made, facts, 3)):
                        run = Forward(made, row, window=window, facts=facts)
                        self.assertIn(run.stand, found)
                        while run.state == "waiting":
                            run.go()
                            self.assertIn(run.stand, found)

    def test_ends(self):
        self.same(reached_stands(Program(BOOK, ("give", "a"))), (("end", "a"),))
        self.same(reached_stands(Program(BOOK, DO)), ((0, (), "fresh"),))
        self.same(reached_stands(Program(BOOK, DO, ("last",)), window=1), ((0, (), "fresh"), ("end", "failed"), ("end", "ok"))[1:] + ((0, (), "fresh"),))
        self.same(reached_stands(Program(BOOK, DO, ("last",)), facts=SURE), ((0, (), "fresh"),))

    def test_too_many_fates(self):
        for call in (reached_stands, full_row):
            self.keeps(TooMany, "limit", 3000, call, LONG)
            self.keeps(TooMany, "limit", 3000, lambda call=call: call(LONG, window=7))
        self.same(len(reached_stands(LONG, window=6)), 4)
        self.same(len(reached_stands(LONG, window=16, facts=Facts(WIDE, b=("x",)))), 1)
        # The window in which the fates are too many is not reached: the list is not longer.
        self.keeps(TooMany, "limit", 3000, least_window, LONG)
        short = Program(WIDE, *[("do", "b", (), None)] * 6)
        self.same(least_window(short), 6)
        self.keeps(TooMany, "limit", 3000, least_window, DEALS)
        # Too many fates count at a stand that is reached only later.
        later = Program(WIDE, ("do", "b", (), None), MARK, ("if", "undone", 19), *LONG.lines)
        self.keeps(TooMany, "limit", 3000, reached_stands, later)
        self.keeps(TooMany, "limit", 3000, lambda: full_row(later, window=16))

    def test_too_many_stands(self):
        # No program has so many: lines, deals and what registers can hold are too few.
        most = windows.MAX_STANDS
        try:
            windows.MAX_STANDS = 5
            made = Program(BOOK, *CAREFUL.lines)
            self.keeps(TooMany, "limit", 5, reached_stands, made)
            self.keeps(TooMany, "limit", 5, full_row, made)
            self.keeps(TooMany, "limit", 5, least_window, made)
            windows.MAX_STANDS = 6
            self.same(len(reached_stands(made)), 6)
        finally:
            windows.MAX_STANDS = most

    def test_what_is_passed(self):
        for call in (reached_stands, full_row):
            for value in VALUES + (Facts(TINY),):
                if not isinstance(value, Program):
                    self.refused(InvalidProgram, call, value, window=0, facts=5)
                if type(value) is not int or not 1 <= value <= 16:
                    self.keeps(InvalidNumber, "value", value, lambda: call(ORDER, facts=5, window=value))
                if value is not None and not (isinstance(value, Facts) and value != Facts(TINY)):
                    self.refused(InvalidFacts, call, LONG, facts=value)
        for value in VALUES:
            if not isinstance(value, Program):
                self.refused(InvalidProgram, least_window, value, facts=5)
            if value is not None and not isinstance(value, Facts):
                self.refused(InvalidFacts, least_window, LONG, facts=value)


class FullTest(Case):
    def test_rows_to_full_lists(self):
        seen = {}
        for seed in range(260):
            dice = seeded(seed)
            made = deep_program(dice, 16)
            facts = random_facts(dice, made.book)
            window = dice.choice((1, 2, 3, 4))
            row = full_row(made, window=window, facts=facts)
            fitting = [one for one in allowed_rows(made, facts, 3) if come_to_full(made, one, window, facts)]
            if row is None or len(row) > 3:
                self.same(fitting, [])
            else:
                self.same(row, min(fitting, key=lambda one: (len(one), one)))
            kind = None if row is None else len(row)
            seen[kind] = seen.get(kind, 0) + 1
        self.assertGreater(min(seen.get(kind, 0) for kind in (None, 0, 1, 2)), 2)

    def test_a_row_behind_a_mark_alone(self):
        # With a window of 1 the mark of a broken deal is a list of its own.
        made = Program(BOOK, DO, MARK, ("if", "kept", 5), ("do", "look", ("x",), "x"), ("give", "a"), ("give", "b"))
        self.same(full_row(made, window=1), ())
        made = Program(BOOK, ("do", "look", ("x",), None), ("if", "full", 4), MARK, ("last",), DO, DO, MARK, ("give", "no"))
        self.same((full_row(made, window=2), full_row(made, window=1), full_row(made, window=3)), (("full",), ("full",), None))
        made = Program(BOOK, ("do", "look", ("x",), None), ("if", "full", 5), MARK, DO, ("give", "a"), ("give", "b"))
        self.same((full_row(made, window=1), full_row(made, window=2)), (("failed",), None))


class LeastTest(Case):
    def test_straight_programs(self):
        for many in range(1, 20):
            alone = Book(c=(0, ("y",)))
            made = Program(alone, *[("do", "c", (), None)] * many)
            self.same(least_window(made), many if many <= 16 else None)
            if many <= 16:
                self.same(full_row(made, window=many), None)
            if many > 1:
                self.same(full_row(made, window=min(many, 17) - 1), ())
            for first in range(1, many):
                if many < 19 or first == 9:
                    two = Program(alone, *[("do", "c", (), None)] * first, MARK, *[("do", "c", (), None)] * (many - first))
                    # The mark takes a place, too.
                    self.same(least_window(two), many + 1 if many < 16 else None)

    def test_it_is_the_least_one_without_a_full_list(self):
        seen = []
        for seed in range(150):
            dice = seeded(seed)
            made = deep_program(dice)
            facts = random_facts(dice, made.book)
            expected = None
            try:
                for window in range(16, 0, -1):
                    expected = window if full_row(made, window=window, facts=facts) is None else expected
            except TooMany:
                expected = "too many"
            if expected == "too many":
                # Only the windows up to the least one count.
                try:
                    self.assertIsNone(full_row(made, window=least_window(made, facts=facts), facts=facts))
                except TooMany:
                    pass
            else:
                self.same(least_window(made, facts=facts), expected)
            seen.append(expected)
        self.assertGreater(len(set(seen)), 8)

    def test_the_progress_is_that_with_the_greatest_window(self):
        many = 0
        for seed in range(150):
            dice = seeded(seed)
            made = deep_program(dice, 12)
            facts = random_facts(dice, made.book)
            try:
                window = least_window(made, facts=facts)
                greatest = [reached_stands(made, window=size, facts=facts) for size in (window, 16) if window is not None]
            except TooMany:
                continue
            if window is not None:
                self.same(greatest[0], greatest[1])
                for row in list(allowed_rows(made, facts, 4))[-4:]:
                    runs = [Forward(made, row, window=size, facts=facts) for size in (window, 16)]
                    for run in runs:
                        run.go(many=99)
                    self.same((runs[0].progress, runs[0].result), (runs[1].progress, runs[1].result))
                    many += runs[0].waits > 0
        self.assertGreater(many, 80)

    def test_a_full_list_that_only_facts_bring_about(self):
        self.same(least_window(CAREFUL, facts=SURE), 3)
        self.same(wait_paper(CAREFUL, first_stand(CAREFUL), window=2, facts=SURE), ("full",))
        self.same(least_window(CAREFUL), 2)
        self.same(least_window(LOOP, facts=SURE), None)
        self.same(least_window(Program(BOOK, ("last",))), 1)


if __name__ == "__main__":
    unittest.main()
