"""Waits that are needed [9.1], [9.2]."""

import unittest

from skipahead.ahead.lists import fates, first_stand, forced_list, next_item, stand_behind
from skipahead.ahead.waits import do_agree, is_wait_paper, needs_wait, wait_paper
from skipahead.base.books import Book
from skipahead.errors import (
    InvalidFacts, InvalidItem, InvalidNumber, InvalidOperation, InvalidProgram, InvalidStand, TooMany,
)
from skipahead.line.facts import Facts
from skipahead.plain.programs import Program
from tests.examples import BOOK, CAREFUL, ITEMS, LOOP, MARK, NEW, ORDER, SURE, VALUES
from tests.making import random_facts, random_program, seeded
from tests.oracle import Lists
from tests.test_lists import LIST, LONG, LOOK, START, WIDE, reached
from tests.values import Case

DO = ("do", "new", (), None)
FORK = ("fork", ("failed", "skipped", "undone", "full"), ("failed", "skipped", "undone", "room"))


class PaperTest(Case):
    def test_the_examples_of_the_document(self):
        self.same([wait_paper(ORDER, START, window=16), wait_paper(ORDER, START, window=3)], [FORK, ("full",)])
        self.same([wait_paper(ORDER, (6, ("who", 0), "open"), window=16), wait_paper(CAREFUL, first_stand(CAREFUL), window=9)],
                  [("ends", "more"), ("fork", ("failed", "undone"), ("ok", "kept"))])

    def test_against_a_second_reckoning(self):
        seen = {"ends": 0, "full": 0, "fork": 0}
        for seed in range(300):
            dice = seeded(seed)
            made = random_program(dice)
            facts = random_facts(dice, made.book)
            window = dice.choice((1, 2, 3, 4, 5))
            for stand in reached(made, window, facts, 5):
                paper = Lists(made, stand, facts).paper(window)
                told = wait_paper(made, stand, window=window, facts=facts)
                self.same(told, paper)
                self.assertIs(is_wait_paper(made, stand, paper, facts=facts, window=window), True)
                self.assertIs(needs_wait(made, stand, window=window, facts=facts), paper[0] != "ends")
                for other in (("full",), ("ends", None), ("ends", "failed"), FORK):
                    self.assertIs(is_wait_paper(made, stand, other, window=window, facts=facts), other == paper)
                seen[paper[0]] += 1
        self.assertGreater(min(seen.values()), 20)

    def test_each_window(self):
        for window in range(1, 17):
            self.same(wait_paper(ORDER, START, window=window), ("full",) if window < 4 else FORK)
            self.same(wait_paper(LOOP, first_stand(LOOP), window=window), ("full",))
            self.same(wait_paper(ORDER, (6, (None, None), "fresh"), window=window), ("full",) if window == 1 else ("ends", "more"))
            self.same(wait_paper(ORDER, ("end", "kept"), window=window), ("ends", "kept"))
        self.same(wait_paper(ORDER, (2, ("who", 0), "broken"), window=1), ("full",))

    def test_facts(self):
        start = first_stand(CAREFUL)
        self.same(wait_paper(CAREFUL, start, window=9, facts=SURE)[0], "fork")
        self.same(wait_paper(CAREFUL, start, window=9, facts=SURE)[1:], (("ok", "kept", "failed"), ("ok", "kept", "full")))
        self.same(wait_paper(CAREFUL, start, window=9, facts=Facts(BOOK, new=("ok",), look=("room",))), ("ends", "room"))
        self.same(wait_paper(CAREFUL, start, window=9, facts=Facts(BOOK)), wait_paper(CAREFUL, start, window=9))
        self.same(wait_paper(ORDER, START, window=16, facts=Facts(BOOK, look=("failed", "room"))), ("ends", "room"))

    def test_needs_wait(self):
        self.same([needs_wait(ORDER, START, window=2), needs_wait(ORDER, START, window=16)], [True, True])
        self.same([needs_wait(ORDER, ("end", None), window=1), needs_wait(ORDER, (6, ("who", 0), "fresh"), window=2)], [False, False])

    def test_all_forks_of_a_stand(self):
        told = list(fates(ORDER, START, LIST))
        papers = [(one, other) for one in told for other in told if is_wait_paper(ORDER, START, ("fork", one, other), window=16)]
        expected = [(one, other) for one in told for other in told if {one[3], other[3]} == {"full", "room"}]
        self.same(papers, expected)
        self.same(("fork",) + papers[0], wait_paper(ORDER, START, window=16))
        for one in told:
            self.assertIs(is_wait_paper(ORDER, START, ("fork", one, one), window=16), False)

    def test_the_least_fork(self):
        # Some outcomes end the run, some let it go on; "failed" lies between the answers.
        book = Book(a=(0, ("b", "x")), b=(0, ("y",)))
        made = Program(book, ("do", "a", (), None), ("if", "x", 3), ("last",), ("do", "b", (), None))
        self.same(wait_paper(made, first_stand(made), window=9), ("fork", ("b",), ("failed",)))
        made = Program(book, ("do", "a", (), None), ("if", "b", 3), ("last",), ("do", "b", (), None))
        self.same(wait_paper(made, first_stand(made), window=9), ("fork", ("b",), ("x",)))
        for seed in range(120):
            made = random_program(seeded(seed))
            for stand in reached(made, 5, None, 3):
                paper = wait_paper(made, stand, window=5)
                if paper[0] == "fork":
                    told = list(fates(made, stand, forced_list(made, stand, window=5)))
                    forks = [("fork", one, other) for one in told for other in told
                             if is_wait_paper(made, stand, ("fork", one, other), window=5)]
                    self.same(min(forks), paper)
                    self.assertEqual({(one, other) for _, one, other in forks}, {(one, other) for _, other, one in forks})

    def test_a_fork_of_a_value_and_nothing(self):
        # Nothing is held behind "room"; but an index tells nothing only where the first command was not done.
        made = Program(BOOK, ("do", "new", (), "x"), MARK, ("do", "look", ("p",), None), ("if", "full", 6), ("do", "look", ("y",), None),
                       ("last",), ("do", "look", ("x",), None), parameters=("p",))
        start = first_stand(made)
        fork = ("fork", ("ok", "kept", "full"), ("ok", "kept", "room"))
        self.same(wait_paper(made, start, window=9), fork)
        items = forced_list(made, start, window=9)
        for one, other, agree in ((("failed", "undone", "full"), fork[1], True), (("failed", "undone", "full"), fork[2], True),
                                  (("failed", "undone", "room"), fork[1], True), (fork[1], fork[2], False)):
            self.assertIs(do_agree(made, start, items, one, other), agree)
            self.assertIs(do_agree(made, start, items, other, one), agree)
            self.assertIs(is_wait_paper(made, start, ("fork", one, other), window=9), not agree)

    def test_values_near_papers(self):
        for wrong in (("fork", FORK[1]), FORK + (1,), list(FORK), ("Fork",) + FORK[1:], ("fork", list(FORK[1]), FORK[2]),
                      ("fork", FORK[1][:3], FORK[2]), ("fork", FORK[1] + ("ok",), FORK[2]), ("fork", FORK[1], None), ("fork", None, None),
                      ("fork", ("failed", "skipped", "undone", "nothing"), FORK[2]), ("full",), ("ends", "more"), ("ends", None), (), "full"):
            self.assertIs(is_wait_paper(ORDER, START, wrong, window=16), False, wrong)
            self.assertIs(is_wait_paper(ORDER, START, wrong, window=3), wrong == ("full",))
            self.assertIs(is_wait_paper(ORDER, (6, ("who", 0), "open"), wrong, window=3), wrong == ("ends", "more"))
        self.assertIs(is_wait_paper(ORDER, START, ("fork", FORK[2], FORK[1]), window=16), True)
        self.assertIs(is_wait_paper(ORDER, START, FORK, window=16, facts=SURE), False)
        self.assertIs(is_wait_paper(ORDER, START, ("fork", ("ok", "ok", "kept", "full"), ("ok", "failed", "undone", "room")), window=16, facts=SURE), True)
        for value in VALUES:
            self.assertIs(is_wait_paper(ORDER, START, value, window=16), value == FORK)
            self.assertIs(is_wait_paper(ORDER, START, ("fork", value, FORK[2]), window=16), False)
            self.assertIs(is_wait_paper(ORDER, START, ("fork", FORK[2], value), window=16), False)
            self.assertIs(is_wait_paper(ORDER, START, ("ends", value), window=16), False)
            self.assertIs(is_wait_paper(ORDER, ("end", None), ("ends", value), window=16), value is None)

    def test_too_many_fates(self):
        start = first_stand(LONG)
        self.same(wait_paper(LONG, start, window=6), ("full",))
        for window in (7, 16):
            for call in (wait_paper, needs_wait, lambda one, two, window: is_wait_paper(one, two, ("full",), window=window)):
                self.keeps(TooMany, "limit", 3000, lambda call=call, window=window: call(LONG, start, window=window))
        self.same(wait_paper(LONG, start, window=16, facts=Facts(WIDE, b=("x",))), ("ends", None))


class AgreeTest(Case):
    def test_against_a_second_reckoning(self):
        seen = {True: 0, False: 0}
        for seed in range(150):
            made = random_program(seeded(seed))
            for stand in reached(made, 4, None, 3):
                listed = Lists(made, stand)
                items = listed.forced_list(4)
                told = listed.fates(items)[:12]
                for one in told:
                    for other in told:
                        expected = listed.agree(items, one, other)
                        self.assertIs(do_agree(made, stand, items, one, other), expected)
                        seen[expected] += 1
        self.assertGreater(min(seen.values()), 100)

    def test_ends(self):
        stand = (3, (None, None), "fresh")
        look = (("send", "look", (None,)),)
        self.assertIs(do_agree(ORDER, stand, look, ("failed",), ("room",)), True)
        self.assertIs(do_agree(ORDER, stand, look, ("failed",), ("full",)), True)
        self.assertIs(do_agree(ORDER, stand, look, ("full",), ("failed",)), True)
        self.assertIs(do_agree(ORDER, stand, look, ("full",), ("room",)), False)
        self.assertIs(do_agree(CAREFUL, (4, (None,), "fresh"), look, ("full",), ("room",)), False)
        self.assertIs(do_agree(ORDER, ("end", "a"), (), (), ()), True)

    def test_arguments(self):
        # Behind one fate the register holds the first value, behind the other one nothing, or the second value.
        made = Program(BOOK, ("do", "new", (), "x"), MARK, ("do", "new", (), "y"), MARK, ("do", "look", ("x",), None))
        items = (NEW, MARK, NEW, MARK)
        for one in ("ok", "failed"):
            for other in ("ok", "failed"):
                fate = (one, "kept" if one == "ok" else "undone", "ok", "kept")
                further = (other, "kept" if other == "ok" else "undone", "failed", "undone")
                self.assertIs(do_agree(made, first_stand(made), items, fate, further), True)
        made = Program(BOOK, ("do", "look", ("p",), "x"), ("if", "room", 3), ("do", "new", (), "x"), MARK, ("do", "look", ("x",), None),
                       parameters=("p",))
        start = first_stand(made)
        look = (("send", "look", ("p",)),)
        self.assertIs(do_agree(made, start, look, ("full",), ("room",)), False)
        self.assertIs(do_agree(made, start, look, ("full",), ("failed",)), True)

    def test_facts_do_not_count(self):
        self.assertIs(do_agree(ORDER, START, LIST, ("failed", "skipped", "undone", "full"), ("ok", "ok", "kept", "full")), True)
        self.assertIs(do_agree(ORDER, START, LIST, ("failed", "skipped", "undone", "full"), ("ok", "ok", "kept", "room")), False)

    def test_what_is_refused(self):
        right = ("ok", "ok", "kept", "room")
        for value in VALUES:
            if not isinstance(value, Program):
                self.refused(InvalidProgram, do_agree, value, 5, 5, 5, 5)
            if value != START:
                self.refused(InvalidStand, do_agree, ORDER, value, 5, 5, 5)
            if value not in ((), ITEMS):
                self.refused(InvalidItem, do_agree, ORDER, START, value, 5, 5)
            if value != right:
                self.refused(InvalidOperation, do_agree, ORDER, START, LIST, value, right)
                self.refused(InvalidOperation, do_agree, ORDER, START, LIST, right, value)
        self.refused(InvalidOperation, do_agree, ORDER, START, (MARK,), ("kept",), ("kept",))
        self.refused(InvalidOperation, do_agree, ORDER, START, LIST + (NEW,), right + ("ok",), right[:3] + ("full", "ok"))


class RefusedTest(Case):
    def calls(self):
        return (wait_paper, needs_wait, lambda one, two, **more: is_wait_paper(one, two, 5, **more))

    def test_what_is_passed(self):
        for call in self.calls():
            for value in VALUES + (Facts(WIDE),):
                if not isinstance(value, Program):
                    self.refused(InvalidProgram, call, value, 5, window=0, facts=5)
                if value != START:
                    self.refused(InvalidStand, call, ORDER, value, window=0, facts=5)
                if type(value) is not int or not 1 <= value <= 16:
                    caught = self.refused(InvalidNumber, call, ORDER, START, facts=5, window=value)
                    self.assertIs(caught.value, value)
                if value is not None and not (isinstance(value, Facts) and value != Facts(WIDE)):
                    self.refused(InvalidFacts, call, ORDER, START, window=3, facts=value)
            self.refused(InvalidNumber, call, ORDER, START, window=17)

    def test_full_is_told_only_if_a_further_item_is_forced(self):
        two = Program(BOOK, DO, MARK, ("give", "a"))
        self.same([wait_paper(two, first_stand(two), window=window) for window in (1, 2, 3)], [("full",), ("ends", "a"), ("ends", "a")])
        self.same(wait_paper(CAREFUL, first_stand(CAREFUL), window=2)[0], "fork")
        self.same(next_item(CAREFUL, first_stand(CAREFUL), (NEW, MARK)), None)
        self.same(stand_behind(CAREFUL, first_stand(CAREFUL), (NEW, MARK), ("ok", "kept")), (4, (0,), "fresh"))
        self.same(forced_list(CAREFUL, (4, (0,), "fresh"), window=1), (LOOK[:2] + (("x",),),))


if __name__ == "__main__":
    unittest.main()
