"""Programs that are alike [7.1] to [7.4]."""

import unittest

from skipahead.base.books import Book
from skipahead.errors import InvalidProgram, InvalidStand, TooMany
from skipahead.plain import alike
from skipahead.plain.alike import alike_paper, are_alike, first_pair, is_alike_paper, pairs_behind
from skipahead.plain.programs import Program, is_program
from tests.examples import BOOK, CAREFUL, LOOP, MARK, ORDER, VALUES
from tests.making import random_line, random_program, seeded
from tests.oracle import Walk, numbered, rows, walk_with
from tests.values import Case

DO = ("do", "new", (), None)
NEW_X = ("do", "new", (), "x")
OTHER = ORDER.replaced(6, NEW_X)
MORE = ORDER.replaced(8, ("last",))
ONE = Book(c=(0, ("x",)))


def deals(registers):
    """A program of many deals, each with a command whose value a register holds, or none for a hyphen."""
    lines = []
    for name in registers:
        lines += [("do", "c", (), None if name == "-" else name), MARK]
    return Program(ONE, *lines, ("go", 0), parameters=("p",))


def closed(one, other):
    """All pair states that can be reached, by the steps of the interface."""
    found, todo = {}, [first_pair(one, other)]
    while todo:
        state = todo.pop()
        if state not in found:
            found[state] = True
            todo += pairs_behind(one, other, state)
    return found


def as_paper(states):
    return ("alike", tuple(sorted(states, key=repr)))


def place_of(walk):
    return ("end", walk.result()) if walk.ended() else (walk.at, [walk.held[name] for name in walk.program.registers])


def pair_of(one, other):
    """The pair state of two runs at their next works."""
    helds = [[] if walk.ended() else [walk.held[name] for name in walk.program.registers] for walk in (one, other)]
    told = numbered(*helds)
    deals_ = [walk.deal for walk in (one, other) if not walk.ended()] + ["fresh"]
    places = [place_of(walk) if walk.ended() else (walk.at, held) for walk, held in zip((one, other), told)]
    return (*places, deals_[0])


class AlikeTest(Case):
    def yes(self, one, other):
        for pair in ((one, other), (other, one)):
            self.assertIs(are_alike(*pair), True)
            paper = alike_paper(*pair)
            self.assertIs(is_alike_paper(*pair, paper), True)
            self.same(paper, as_paper(closed(*pair)))

    def no(self, one, other, many):
        """Asserts that two programs are parted by a row of so many outcomes."""
        for pair in ((one, other), (other, one)):
            self.assertIs(are_alike(*pair), False)
            paper = alike_paper(*pair)
            self.same((paper[0], len(paper[1])), ("parted", many))
            self.assertIs(is_alike_paper(*pair, paper), True)

    def test_the_examples_of_the_document(self):
        self.same([are_alike(ORDER, OTHER), len(alike_paper(ORDER, MORE)[1])], [True, 3])
        self.assertIs(is_alike_paper(ORDER, MORE, ("parted", ("ok", "failed", "full", "ok"))), True)
        pair = first_pair(ORDER, OTHER)
        self.same(pair, ((0, ("who", None)), (0, ("who", None)), "fresh"))
        self.same(pairs_behind(ORDER, OTHER, pair)[0], ((1, ("who", 0)), (1, ("who", 0)), "open"))

    def test_programs_that_are_written_otherwise(self):
        self.yes(ORDER, ORDER)
        self.yes(ORDER, ORDER.renamed({"x": "a"}))
        self.yes(ORDER, Program(BOOK, *ORDER.lines, DO, MARK, ("go", 9), parameters=("who",)))
        self.yes(CAREFUL, Program(BOOK, ("go", 4), ("give", "no"), ("do", "look", ("y",), None), ("last",), ("do", "new", (), "y"), MARK,
                                  ("if", "kept", 2), ("go", 1)))
        self.yes(LOOP, Program(BOOK, DO, MARK, DO, MARK, ("go", 0)))
        self.yes(LOOP, Program(BOOK, MARK, DO, MARK, MARK, ("go", 0)))
        self.yes(Program(BOOK, MARK, ("last",)), Program(BOOK, ("give", "kept")))
        self.yes(Program(BOOK, ("last",)), Program(BOOK, ("go", 1)))
        # What is skipped is no work, and what is not used may be held.
        self.yes(Program(BOOK, DO, ("if", "ok", 4), DO, MARK, MARK), Program(BOOK, ("do", "new", (), "z"), MARK))
        # A register that is named again in a broken deal holds nothing, and so does one that never held anything.
        self.yes(Program(BOOK, NEW_X, ("do", "new", (), "x"), ("do", "look", ("x",), None), MARK),
                 Program(BOOK, DO, NEW_X, ("do", "look", ("x",), None), MARK))

    def test_programs_that_differ_in_one_place(self):
        self.no(ORDER, MORE, 3)
        self.no(ORDER, ORDER.replaced(0, DO), 1)
        self.no(ORDER, ORDER.replaced(5, ("give", "full")), 2)
        self.no(ORDER, ORDER.replaced(1, ("do", "put", ("who", "x"), None)), 1)
        self.no(ORDER, ORDER.replaced(2, ("go", 3)), 1)
        self.no(CAREFUL, CAREFUL.replaced(5, ("give", "room")), 2)
        self.no(CAREFUL, CAREFUL.replaced(0, ("do", "look", ("x",), "x")), 0)
        self.no(Program(BOOK, ("give", "ok")), Program(BOOK, ("last",)), 0)
        self.no(Program(BOOK, DO), Program(BOOK, DO, MARK), 1)
        self.no(Program(BOOK, DO, ("last",)), Program(BOOK, DO, ("give", "ok")), 1)
        # Alike with all servers that never fail.
        self.no(Program(BOOK, DO, DO, MARK), Program(BOOK, DO, MARK, DO, MARK), 1)
        self.no(Program(BOOK, DO, MARK, DO), Program(BOOK, DO, MARK, ("if", "undone", 4), DO), 1)

    def test_the_row_is_short_where_a_mark_makes_no_outcome(self):
        one = Program(BOOK, DO, MARK, ("if", "kept", 4), DO, ("give", "a"))
        other = one.replaced(4, ("give", "b"))
        self.no(one, other, 1)

    def test_against_a_second_reckoning(self):
        seen = {"alike": 0, "parted": 0}
        for seed in range(250):
            dice = seeded(seed)
            one = random_program(dice)
            lines = list(one.lines)
            at = dice.randrange(len(lines))
            lines[at] = random_line(dice, one.book, len(lines), at, ("p", "q", "x"), "do")
            if not is_program(one.book, tuple(lines), parameters=one.parameters):
                continue
            other = Program.of(one.book, tuple(lines), parameters=one.parameters)
            paper = alike_paper(one, other)
            seen[paper[0]] += 1
            shortest = None
            for row in rows(one, 3):
                work, thing, fits = walk_with(other, row)
                differs = fits and (work, thing) != walk_with(one, row)[:2]
                self.assertIs(is_alike_paper(one, other, ("parted", row)), differs)
                shortest = row if differs and shortest is None else shortest
            if paper[0] == "parted" and len(paper[1]) <= 3:
                self.same(len(paper[1]), len(shortest))
            else:
                self.assertIsNone(shortest)
            self.assertIs(is_alike_paper(one, other, paper), True)
            self.assertIs(are_alike(one, other), paper[0] == "alike")
            self.assertIs(is_alike_paper(one, other, as_paper(closed(one, other))), paper[0] == "alike")
        self.assertGreater(min(seen.values()), 50)

    def test_three_thousand_pair_states_and_more(self):
        one, other = deals("xypxypxypxy"), deals("xpypxyxyp")
        paper = alike_paper(one, other)
        self.assertGreater(len(paper[1]), 1000)
        self.assertIs(is_alike_paper(one, other, paper), True)
        one, other = deals("-x-ypyxx-py"), deals("pyp-ppyx")
        self.same(len(alike_paper(one, other)[1]), 3000)
        self.assertIs(are_alike(one, other), True)
        one, other = deals("ppx-y-yy"), deals("yyyppy-yx")
        self.same(len(closed(one, other)), 3001)
        self.keeps(TooMany, "limit", 3000, alike_paper, one, other)
        self.keeps(TooMany, "limit", 3000, are_alike, one, other)
        one, other = deals("xpx----yx"), deals("x--x-pyx")
        self.keeps(TooMany, "limit", 3000, alike_paper, one, other)
        # Also if the programs differ.
        parted = one.replaced(1, ("give", "a"))
        self.assertIs(are_alike(parted, other), False)
        paper = as_paper(closed(one, other))
        self.assertGreater(len(paper[1]), 3000)
        self.assertIs(is_alike_paper(one, other, paper), True)
        self.assertIs(is_alike_paper(one, other, ("alike", paper[1][:-1])), False)
        self.same(alike.MAX_PAIRS, 3000)

    def test_too_many_comes_ahead_of_a_difference(self):
        # A difference behind the first outcome, and many states behind the other one.
        head = (("do", "c", (), None), ("if", "x", 3), ("give", "a"))
        one, other = deals("xpx----yx"), deals("x--x-pyx")
        first = Program(ONE, *head, parameters=("p",)) + one
        second = Program(ONE, *head[:2], ("give", "b"), parameters=("p",)) + other
        self.keeps(TooMany, "limit", 3000, alike_paper, first, second)
        self.assertIs(is_alike_paper(first, second, ("parted", ("failed",))), True)


class PaperTest(Case):
    def test_just_the_reached_states_ascending(self):
        paper = alike_paper(CAREFUL, CAREFUL.renamed({"x": "a"}))
        texts = [repr(state) for state in paper[1]]
        self.same(texts, sorted(texts))
        self.same(paper[1], (
            (("end", "failed"), ("end", "failed"), "fresh"), (("end", "full"), ("end", "full"), "fresh"),
            (("end", "no"), ("end", "no"), "fresh"), (("end", "room"), ("end", "room"), "fresh"),
            ((0, (None,)), (0, (None,)), "fresh"), ((1, (0,)), (1, (0,)), "open"), ((4, (0,)), (4, (0,)), "fresh"),
        ))

    def test_closed_lists_with_more_states(self):
        states = list(alike_paper(CAREFUL, CAREFUL)[1])
        more = [
            (("end", "zzz"), ("end", "zzz"), "fresh"), (("end", None), ("end", None), "fresh"), ((4, (None,)), (4, (None,)), "open"),
            ((1, (None,)), (1, (None,)), "open"), ((4, (None,)), (4, (None,)), "fresh"), ((0, (0,)), (0, (1,)), "fresh"),
            ((0, (0,)), (0, (None,)), "open"), ((1, (0,)), (1, (0,)), "open"),
        ]
        for at in range(len(more)):
            told = dict.fromkeys(states + more[:at + 1])
            # Behind the mark stands a look with what the register holds; all that is needed for it is there.
            if at >= 3:
                told[((4, (None,)), (4, (None,)), "fresh")] = None
            self.assertIs(is_alike_paper(CAREFUL, CAREFUL, as_paper(told)), True, more[at])

    def test_lists_that_lack_a_state(self):
        for one, other in ((CAREFUL, CAREFUL), (ORDER, OTHER), (LOOP, LOOP)):
            kind, states = alike_paper(one, other)
            for at in range(len(states)):
                self.assertIs(is_alike_paper(one, other, (kind, states[:at] + states[at + 1:])), False)
        self.assertIs(is_alike_paper(ORDER, OTHER, ("alike", ())), False)

    def test_lists_with_a_state_at_which_the_programs_differ(self):
        states = list(alike_paper(CAREFUL, CAREFUL)[1])
        for wrong in ((("end", "a"), ("end", "b"), "fresh"), ((4, (0,)), (4, (1,)), "open"), ((4, (0,)), (4, (None,)), "fresh"),
                      ((1, (0,)), (4, (0,)), "open"), (("end", None), (0, (None,)), "fresh")):
            self.assertIs(is_alike_paper(CAREFUL, CAREFUL, as_paper(states + [wrong])), False)
            pairs_behind(CAREFUL, CAREFUL, wrong)

    def test_order_and_repetitions(self):
        kind, states = alike_paper(ORDER, OTHER)
        for wrong in (states[::-1], states + states[-1:], states[:1] + states, states[1:2] + states[:1] + states[2:], list(states)):
            self.assertIs(is_alike_paper(ORDER, OTHER, (kind, wrong)), False)

    def test_rows_that_part_and_rows_that_do_not(self):
        for row, parts in ((("failed", "full", "ok"), True), (("failed", "full", "failed"), True), (("failed", "full"), False),
                           (("ok", "ok", "full", "ok"), True), (("ok", "ok", "room"), False), ((), False), (("failed", "room"), False)):
            self.assertIs(is_alike_paper(ORDER, MORE, ("parted", row)), parts)
        for row in (("room",), ("ok", "ok", "room", "ok"), ("failed", "full", "ok", "ok"), ["failed", "full", "ok"], None, "ok"):
            self.assertIs(is_alike_paper(ORDER, MORE, ("parted", row)), False)
        self.assertIs(is_alike_paper(ORDER, MORE, ("alike", ("failed", "full", "ok"))), False)
        # A longer row of both, behind which they still differ, and one that is none of the second one.
        longer = Program(BOOK, DO, DO, MARK)
        marks = Program(BOOK, DO, MARK, DO, MARK)
        self.assertIs(is_alike_paper(longer, marks, ("parted", ("ok",))), True)
        self.assertIs(is_alike_paper(longer, marks, ("parted", ("ok", "ok"))), True)
        self.assertIs(is_alike_paper(longer, marks, ("parted", ("failed", "ok"))), False)
        self.assertIs(is_alike_paper(LOOP, LOOP.replaced(0, NEW_X), ("parted", ("ok",) * 3001)), False)

    def test_values_that_are_no_papers(self):
        paper = alike_paper(ORDER, OTHER)
        for value in VALUES + (paper + (1,), list(paper), paper[1], ("alike", paper), ("parted", paper[1]), ("alike",), ("Alike", paper[1])):
            if value != alike_paper(ORDER, ORDER):
                self.assertIs(is_alike_paper(ORDER, OTHER, value), False)
            self.assertIs(is_alike_paper(ORDER, OTHER, ("alike", value)), value == paper[1])
            self.assertIs(is_alike_paper(ORDER, OTHER, ("alike", (value,))), False)
            self.assertIs(is_alike_paper(ORDER, OTHER, ("parted", value)), False)
            self.assertIs(is_alike_paper(ORDER, OTHER, (value, paper[1])), False)


class StatesTest(Case):
    def test_steps_against_a_second_reckoning(self):
        for seed in range(100):
            made = random_program(seeded(seed))
            free = [name for name in made.registers if name not in made.parameters]
            other = made.renamed({name: name + "z" for name in free})
            one, two = Walk(made), Walk(other)
            one.to_work()
            two.to_work()
            self.same(first_pair(made, other), pair_of(one, two))
            for step in range(6):
                state = pair_of(one, two)
                if one.ended():
                    self.same(pairs_behind(made, other, state), ())
                    break
                if one.item() == MARK:
                    one.step(None, None), two.step(None, None)
                    one.to_work(), two.to_work()
                    self.same(pairs_behind(made, other, state), (pair_of(one, two),))
                    continue
                found = []
                outcomes = made.book.outcomes(one.item()[0])
                for outcome in outcomes:
                    first, second = one.twin(), two.twin()
                    first.step(outcome, step), second.step(outcome, step)
                    first.to_work(), second.to_work()
                    found.append(pair_of(first, second))
                self.same(pairs_behind(made, other, state), tuple(sorted(set(found), key=repr)))
                outcome = seeded(seed + step).choice(outcomes)
                one.step(outcome, step), two.step(outcome, step)
                one.to_work(), two.to_work()

    def test_no_steps_where_both_do_not_go_on_alike(self):
        self.same(pairs_behind(ORDER, MORE, (("end", "a"), ("end", "a"), "fresh")), ())
        self.same(pairs_behind(ORDER, MORE, (("end", "a"), ("end", None), "fresh")), ())
        self.same(pairs_behind(ORDER, MORE, ((2, ("who", None)), (3, ("who", None)), "open")), ())
        self.same(pairs_behind(ORDER, MORE, ((3, ("who", 0)), (3, ("who", 1)), "fresh")), ())
        self.same(pairs_behind(ORDER, MORE, ((3, ("who", 0)), (3, (None, 0)), "fresh"))[0][0], ("end", "room"))

    def test_equal_states_behind_stand_once(self):
        one = Program(BOOK, ("do", "look", ("p",), None), MARK, ("give", "a"), parameters=("p",))
        self.same(pairs_behind(one, one, first_pair(one, one)), (
            (("end", "a"), ("end", "a"), "fresh"), ((1, ("p",)), (1, ("p",)), "open")))

    def test_one_thing_changed_in_a_state(self):
        right = ((6, ("who", 0)), (6, ("who", 0)), "open")
        self.same(len(pairs_behind(ORDER, OTHER, right)), 2)
        for value in VALUES + (("broken",), "Open", "fresh ", ("end", "more"), ("end", 5), ("end", "A"), ("end", "a", "b"), ("end",)):
            for wrong in ((right[0], right[1], value), (value, right[1], "open"), (right[0], value, "open"), right + (value,),
                          ((6, value), right[1], "open"), ((6, ("who", 0, value)), right[1], "open"), ((6, ("who", 0), value), right[1], "open")):
                if wrong[0] != ("end", "more") and wrong[1] != ("end", "more"):
                    self.refused(InvalidStand, pairs_behind, ORDER, OTHER, wrong)
            if type(value) is not int or value not in (0, 1, 2, 7):
                self.refused(InvalidStand, pairs_behind, ORDER, OTHER, ((value, ("who", 0)), right[1], "open"))
            if value is not None and (type(value) is not int or value != 0):
                self.refused(InvalidStand, pairs_behind, ORDER, OTHER, ((6, ("who", value)), right[1], "open"))
            self.refused(InvalidStand, pairs_behind, ORDER, OTHER, value)
        self.refused(InvalidStand, pairs_behind, ORDER, OTHER, list(right))
        self.refused(InvalidStand, pairs_behind, ORDER, OTHER, right[:2])

    def test_lines(self):
        for line in range(-1, 11):
            for deal in ("fresh", "open", "broken"):
                state = ((line, ("who", None)), ("end", None), deal)
                if deal != "broken" and (line in (0, 1, 3, 6) or (deal == "open" and line in (2, 7))):
                    self.same(pairs_behind(ORDER, OTHER, state), ())
                else:
                    self.refused(InvalidStand, pairs_behind, ORDER, OTHER, state)

    def test_numbers_of_classes(self):
        two = Program(BOOK, ("do", "put", ("a", "b"), None), parameters=("a",))
        for held, other in ((("a", 0), ("a", 0)), ((0, 1), (1, 0)), ((0, 1), (2, 3)), ((0, None), (1, 0)), ((None, None), (0, 1)),
                            ((0, 1), ("a", 1)), ((None, 0), (None, None)), (("a", None), (0, None)), ((0, 1), (2, 0))):
            pairs_behind(two, two, ((0, held), (0, other), "fresh"))
        for held, other in ((("a", 1), ("a", 0)), ((1, 0), (0, 1)), ((0, 0), (0, 1)), ((0, 1), (3, 2)), ((0, 1), (1, 1)), ((0, 2), (1, 0)),
                            (("a", "a"), (0, 1)), (("b", 0), (0, 1)), ((None, "b"), (0, 1)), ((None, None), (1, 0)), (("a", 0), ("a", 2)),
                            ((0, True), (0, 1)), ((False, 1), (0, 1)), ((0, -1), (0, 1)), ((0,), (0, 1)), ((0, 1, 2), (0, 1)), ([0, 1], (0, 1))):
            self.refused(InvalidStand, pairs_behind, two, two, ((0, held), (0, other), "fresh"))

    def test_the_deal_of_runs_that_have_ended(self):
        end, at = ("end", "a"), (0, ("who", None))
        self.same(pairs_behind(ORDER, OTHER, (end, end, "fresh")), ())
        self.refused(InvalidStand, pairs_behind, ORDER, OTHER, (end, end, "open"))
        for state in ((end, at, "open"), (end, at, "fresh"), (at, end, "open"), (at, end, "fresh")):
            self.same(pairs_behind(ORDER, OTHER, state), ())

    def test_both_end_in_an_open_deal(self):
        one = Program(BOOK, DO, ("give", "a"))
        self.same(pairs_behind(one, one, first_pair(one, one)), ((("end", "a"), ("end", "a"), "fresh"),))
        self.same(pairs_behind(one, one + Program(BOOK, MARK), first_pair(one, one)), ((("end", "a"), ("end", "a"), "fresh"),))
        longer = Program(BOOK, DO, MARK, ("give", "a"))
        self.same(pairs_behind(one, longer, first_pair(one, longer)), (
            (("end", "a"), ("end", "a"), "fresh"), (("end", "a"), (1, ()), "open")))


class RefusedTest(Case):
    def test_programs(self):
        calls = (are_alike, alike_paper, first_pair, lambda *pair: is_alike_paper(*pair, 5), lambda *pair: pairs_behind(*pair, 5))
        wider = Program(BOOK | Book(zz=(0, ("ok",))), *ORDER.lines, parameters=("who",))
        for call in calls:
            for value in VALUES:
                if not isinstance(value, Program):
                    self.refused(InvalidProgram, call, value, ORDER)
                    self.refused(InvalidProgram, call, ORDER, value)
                    self.refused(InvalidProgram, call, value, 5)
            for other in (wider, CAREFUL, Program(BOOK, *ORDER.lines), Program(BOOK, *ORDER.lines, parameters=("who", "x"))):
                self.refused(InvalidProgram, call, ORDER, other)
        same = Program(Book(put=BOOK["put"], new=BOOK["new"], look=BOOK["look"]), *ORDER.lines, parameters=("who",))
        self.assertIs(are_alike(ORDER, same), True)


if __name__ == "__main__":
    unittest.main()
