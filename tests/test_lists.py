"""Stands, fates and forced lists [8.1] to [8.5]."""

import unittest

from skipahead.ahead import lists
from skipahead.ahead.lists import (
    fates, first_stand, forced_list, is_right, is_stand, next_item, stand_behind, thing_at,
)
from skipahead.base.books import Book
from skipahead.errors import (
    InvalidFacts, InvalidItem, InvalidNumber, InvalidOperation, InvalidProgram, InvalidStand, TooMany,
)
from skipahead.line.facts import Facts
from skipahead.plain.programs import Program
from tests.examples import BOOK, CAREFUL, ITEMS, LOOP, MARK, NEW, ORDER, SURE, VALUES
from tests.making import random_facts, random_program, seeded
from tests.oracle import Lists, Walk
from tests.values import Case

DO = ("do", "new", (), None)
START = first_stand(ORDER)
LIST = forced_list(ORDER, START, window=16)
PUT = ("send", "put", (0, "who"))
LOOK = ("send", "look", (0,))
WIDE = Book(a=(1, ("x", "y", "z")), b=(0, ("x", "y", "z")))
# Whatever the outcomes are, the next command and its arguments are the same.
LONG = Program(WIDE, *[("do", "b", (), None)] * 16)
DEALS = Program(WIDE, *[("do", "b", (), None), MARK] * 11, ("go", 0))


def reached(program, window, facts, most=8):
    """Some stands that forward runs reach."""
    walk = Walk(program)
    walk.to_stand()
    todo, found = [walk.stand()], []
    while todo and len(found) < most:
        stand = todo.pop(0)
        if stand not in found:
            found.append(stand)
            listed = Lists(program, stand, facts)
            items = listed.forced_list(window)
            for fate in listed.fates(items)[:9]:
                run, _ = listed.behind(items, fate)
                todo.append(("end", run[0]) if isinstance(run, tuple) else run.stand())
    return found


class StandTest(Case):
    def test_the_examples_of_the_document(self):
        self.same([START, thing_at(ORDER, START)], [(0, ("who", None), "fresh"), ("try", "new", ())])
        self.same([forced_list(ORDER, START, window=2), LIST[2:]], [(NEW, PUT), (MARK, LOOK)])
        self.same([len(list(fates(ORDER, START, LIST))), next_item(ORDER, START, LIST)], [9, None])
        self.same(stand_behind(ORDER, START, LIST, ("ok", "failed", "undone", "full")), (6, ("who", 0), "open"))
        self.same(thing_at(ORDER, (2, ("who", 0), "broken")), MARK)
        self.same(stand_behind(ORDER, START, LIST, ("failed", "skipped", "undone", "failed")), ("end", "room"))

    def test_first_stands(self):
        self.same(first_stand(CAREFUL), (0, (None,), "fresh"))
        self.same(first_stand(Program(BOOK, MARK, ("last",))), ("end", "kept"))
        self.same(first_stand(Program(BOOK, ("go", 1))), ("end", None))
        self.same(first_stand(Program(BOOK, ("go", 2), ("last",), MARK, ("if", "kept", 5), ("last",), DO, parameters=("a", "b"))),
                  (5, ("a", "b"), "fresh"))
        for seed in range(100):
            made = random_program(seeded(seed))
            walk = Walk(made)
            walk.to_stand()
            self.same(first_stand(made), walk.stand())

    def test_lines_and_deals(self):
        # Behind the mark in line 2 of ORDER a command is tried, behind that in line 7 none.
        for line in range(-1, 11):
            for deal in ("fresh", "open", "broken", "Open", None, "kept"):
                expected = {"fresh": (0, 1, 3, 6), "open": (0, 1, 2, 3, 6, 7), "broken": (2,)}.get(deal, ())
                self.assertIs(is_stand(ORDER, (line, ("who", None), deal)), line in expected)

    def test_marks_in_broken_deals(self):
        made = Program(BOOK, DO, MARK, MARK, ("if", "undone", 5), DO, MARK, ("if", "kept", 9), ("if", "undone", 4), MARK, ("last",))
        self.same([is_stand(made, (line, (), "broken")) for line in range(10)],
                  [False, True, False, False, False, True, False, False, False, False])
        self.assertIs(is_stand(made, (8, (), "open")), True)

    def test_what_registers_hold(self):
        three = Program(BOOK, ("do", "put", ("b", "c"), "a"), MARK, parameters=("b",))
        for held in ((None, "b", None), (0, "b", 1), (0, 1, 2), (None, 0, None), (None, None, 0), (0, None, None), (None, None, None)):
            self.assertIs(is_stand(three, (0, held, "open")), True, held)
        for held in ((1, "b", 0), (0, "b", 0), (0, 2, 1), (1, None, None), ("a", "b", None), ("b", "b", None), (None, "a", None),
                     (None, "b"), (None, "b", None, None), [None, "b", None], (True, "b", None), (False, "b", None), (None, "b", -1),
                     (None, "b", "c"), (0, 1, 10 ** 59), (None, "b", (0,)), None, ()):
            self.assertIs(is_stand(three, (0, held, "open")), False, held)
            self.refused(InvalidStand, thing_at, three, (0, held, "open"))

    def test_ends(self):
        for result in (None, "a", "kept", "failed", "abcdefgh"):
            self.assertIs(is_stand(ORDER, ("end", result)), True)
            self.same(thing_at(ORDER, ("end", result)), ("end", result))
        for result in ("", "A", "abcdefghi", 0, True, ("a",), []):
            self.assertIs(is_stand(ORDER, ("end", result)), False)
        for value in (("end",), ("end", None, "fresh"), ["end", None], ("End", None), ("end", ("who", None), "fresh")):
            self.assertIs(is_stand(ORDER, value), False)

    def test_every_value_is_accepted(self):
        right = (3, ("who", 0), "fresh")
        self.assertIs(is_stand(ORDER, right), True)
        for value in VALUES:
            if value != START:
                self.assertIs(is_stand(ORDER, value), False)
            self.assertIs(is_stand(ORDER, (3, ("who", 0), value)), False)
            self.assertIs(is_stand(ORDER, (3, value, "fresh")), False)
            self.assertIs(is_stand(ORDER, (value, ("who", 0), "fresh")), type(value) is int and value in (0, 1))
            self.assertIs(is_stand(ORDER, right + (value,)), False)

    def test_things(self):
        self.same(thing_at(ORDER, (1, ("who", 0), "open")), ("try", "put", (0, "who")))
        self.same(thing_at(ORDER, (1, ("who", None), "fresh")), ("try", "put", (None, "who")))
        self.same(thing_at(ORDER, (1, (0, 1), "open")), ("try", "put", (1, 0)))
        self.same(thing_at(ORDER, (7, (None, None), "open")), MARK)
        for value in VALUES:
            if value != START:
                self.refused(InvalidStand, thing_at, ORDER, value)

    def test_random_stands(self):
        for seed in range(80):
            made = random_program(seeded(seed))
            for stand in reached(made, 3, None):
                self.assertIs(is_stand(made, stand), True)
                thing = Lists(made, stand).thing((), ())
                told = thing_at(made, stand)
                self.same(told[:2], thing[:2])
                if thing[0] == "try":
                    self.same(told[2], tuple(one[1] if isinstance(one, tuple) else one for one in thing[2]))


class ForcedTest(Case):
    def test_against_a_second_reckoning(self):
        longest = 0
        for seed in range(160):
            dice = seeded(seed)
            made = random_program(dice)
            facts = random_facts(dice, made.book)
            window = dice.choice((1, 2, 3, 4, 5))
            for stand in reached(made, window, facts, 5):
                listed = Lists(made, stand, facts)
                items = listed.forced_list(window)
                longest = max(longest, len(items))
                self.same(forced_list(made, stand, window=window, facts=facts), items)
                self.same(forced_list(made, stand, facts=facts, window=1), items[:1])
                for at in range(len(items)):
                    self.same(next_item(made, stand, items[:at], facts=facts), items[at])
        self.assertEqual(longest, 5)

    def test_lists_of_every_length_up_to_the_window(self):
        for window in range(1, 17):
            self.same(forced_list(ORDER, START, window=window), LIST[:window])
            self.same(len(forced_list(LOOP, first_stand(LOOP), window=window)), window)
        self.same(forced_list(ORDER, (6, (None, 0), "open"), window=9), (NEW, MARK))
        self.same(forced_list(ORDER, (2, ("who", 0), "broken"), window=9), (MARK, ("send", "look", ("x",))))
        self.same(forced_list(ORDER, (2, ("who", None), "broken"), window=9), (MARK, ("send", "look", (None,))))
        self.same(forced_list(ORDER, ("end", "a"), window=9), ())

    def test_the_first_argument(self):
        two = Program(BOOK, ("do", "put", ("a", "b"), None), parameters=("b",))
        for held, arguments in (((None, None), (None, None)), ((None, "b"), (None, "b")), ((0, "b"), ("a", "b")), ((0, 1), ("a", "b")),
                                ((0, None), ("a", None))):
            self.same(forced_list(two, (0, held, "fresh"), window=1), (("send", "put", arguments),))
        # What a failed command leaves is nothing, whichever way it is told.
        made = Program(BOOK, ("do", "new", (), "x"), MARK, ("do", "look", ("x",), None))
        self.same(forced_list(made, first_stand(made), window=3), (NEW, MARK, ("send", "look", (0,))))
        made = Program(BOOK, ("do", "new", (), "x"), ("do", "new", (), "x"), MARK, ("do", "look", ("x",), None))
        self.same(forced_list(made, first_stand(made), window=9)[3:], (("send", "look", (1,)),))
        # The second command is skipped if the first one fails; then the register holds nothing on both ways.
        made = Program(BOOK, DO, ("do", "new", (), "x"), MARK, ("if", "undone", 5), ("do", "look", ("y",), None), ("do", "look", ("x",), None))
        self.same(forced_list(made, first_stand(made), window=9), (NEW, NEW, MARK, ("send", "look", (None,))))
        self.same(forced_list(made, first_stand(made), window=9, facts=SURE)[3:], (("send", "look", (None,)),) + (LOOK[:2] + ((1,),),))

    def test_two_items_cannot_stand_in_one_place(self):
        # On one way the register holds the first value, on the other one the second, or nothing.
        made = Program(BOOK, ("do", "look", ("p",), "x"), ("if", "full", 3), ("do", "new", (), "x"), ("do", "look", ("x",), None),
                       parameters=("p",))
        self.same(len(forced_list(made, first_stand(made), window=9)), 1)
        made = Program(BOOK, ("do", "new", (), "x"), MARK, ("do", "new", (), "y"), MARK, ("if", "undone", 7),
                       ("do", "look", ("y",), None), ("last",), ("do", "look", ("y",), None))
        self.same(forced_list(made, first_stand(made), window=9), (NEW, MARK, NEW, MARK, ("send", "look", (2,))))

    def test_two_values_or_a_value_and_nothing(self):
        news = (("do", "new", (), "x"), ("do", "new", (), "y"), ("do", "look", ("p",), None), ("if", "full", 5))
        ends = (("do", "look", ("y",), None), ("last",), ("do", "look", ("x",), None))
        head = (NEW, NEW, ("send", "look", ("p",)))
        sure = Facts(BOOK, new=("ok",), look=("full", "room"))
        # The first value behind one answer, the second one behind the other.
        made = Program(BOOK, *news[:3], ("if", "full", 6), *ends, parameters=("p",))
        self.same(forced_list(made, first_stand(made), window=9, facts=sure), head)
        # The first value, or nothing although the first command was done.
        made = Program(BOOK, *news[:1], DO, news[2], ("if", "full", 6), *ends, parameters=("p",))
        self.same(forced_list(made, first_stand(made), window=9, facts=sure), head)
        self.assertIs(is_right(made, first_stand(made), head + (LOOK,), facts=sure), False)
        # The first value on both ways.
        made = Program(BOOK, *news[:3], ("if", "full", 6), ("do", "look", ("x",), None), *ends[1:], parameters=("p",))
        self.same(forced_list(made, first_stand(made), window=9, facts=sure), head + (LOOK,))

    def test_facts_let_it_go_further(self):
        self.same(forced_list(CAREFUL, first_stand(CAREFUL), window=9), (NEW, MARK))
        self.same(forced_list(CAREFUL, first_stand(CAREFUL), window=9, facts=Facts(BOOK)), (NEW, MARK))
        self.same(forced_list(CAREFUL, first_stand(CAREFUL), window=9, facts=SURE), (NEW, MARK, LOOK))
        self.same(len(forced_list(ORDER, START, window=16, facts=Facts(BOOK, look=("full", "room")))), 4)
        self.same(len(forced_list(ORDER, START, window=16, facts=Facts(BOOK, look=("full",)))), 6)

    def test_just_three_thousand_fates(self):
        book = Book(a=(0, ("x", "y")), b=(0, ("x", "y")), c=(0, ("x", "y", "z")), d=(0, ("x", "y", "z")))
        five = (("do", "a", (), None), ("do", "b", (), None), MARK)
        made = Program(book, *five * 3, *[("do", command, (), None) for command in "cbdb"])
        facts = Facts(book, b=("x", "y"), c=("x", "y", "z"))
        items = forced_list(made, first_stand(made), window=12, facts=facts)
        self.same(len(list(fates(made, first_stand(made), items, facts=facts))), 3000)
        self.assertIs(is_right(made, first_stand(made), items, facts=facts), True)
        self.keeps(TooMany, "limit", 3000, lambda: forced_list(made, first_stand(made), window=13, facts=facts))
        self.keeps(TooMany, "limit", 3000, lambda: is_right(made, first_stand(made), items + (("send", "b", ()),), facts=facts))

    def test_fates_of_a_broken_deal(self):
        made = Program(WIDE, ("do", "b", (), None), MARK, *[("do", "b", (), None)] * 11)
        items = forced_list(made, (1, (), "broken"), window=12, facts=Facts(WIDE, b=("x", "y")))
        self.same((len(items), items[0]), (12, MARK))
        self.same(len(list(fates(made, (1, (), "broken"), items, facts=Facts(WIDE, b=("x", "y"))))), 2048)
        self.same(list(fates(made, (1, (), "broken"), items[:2])), [("undone", "failed"), ("undone", "x"), ("undone", "y"), ("undone", "z")])

    def test_three_thousand_fates_and_more(self):
        stand = first_stand(LONG)
        for window in range(1, 7):
            self.same(len(forced_list(LONG, stand, window=window)), window)
            self.same(len(list(fates(LONG, stand, forced_list(LONG, stand, window=window)))), (3 ** (window + 1) - 1) // 2)
        for window in (7, 8, 16):
            self.keeps(TooMany, "limit", 3000, lambda window=window: forced_list(LONG, stand, window=window))
        facts = Facts(WIDE, b=("x", "y"))
        self.same(len(forced_list(LONG, stand, window=11, facts=facts)), 11)
        self.keeps(TooMany, "limit", 3000, lambda: forced_list(LONG, stand, window=12, facts=facts))
        start = first_stand(DEALS)
        self.same(len(forced_list(DEALS, start, window=10)), 10)
        self.keeps(TooMany, "limit", 3000, lambda: forced_list(DEALS, start, window=11))
        self.same(len(forced_list(DEALS, start, window=16, facts=Facts(WIDE, b=("x",)))), 16)
        self.same(lists.MAX_FATES, 3000)


class FatesTest(Case):
    def test_against_a_second_reckoning(self):
        for seed in range(100):
            dice = seeded(seed)
            made = random_program(dice)
            facts = random_facts(dice, made.book)
            for stand in reached(made, 4, facts, 4):
                listed = Lists(made, stand, facts)
                items = listed.forced_list(4)
                for at in range(len(items) + 1):
                    self.same(list(fates(made, stand, items[:at], facts=facts)), listed.fates(items[:at]))

    def test_ascending_with_facts_and_without(self):
        told = list(fates(ORDER, START, LIST))
        self.same(told, sorted(told))
        self.same(told[:4], [("failed", "skipped", "undone", "failed"), ("failed", "skipped", "undone", "full"),
                             ("failed", "skipped", "undone", "room"), ("ok", "failed", "undone", "failed")])
        self.same(len(list(fates(ORDER, START, LIST, facts=SURE))), 6)
        self.same(list(fates(ORDER, START, LIST, facts=Facts(BOOK, new=("ok",), put=("ok",), look=("room",)))),
                  [("ok", "ok", "kept", "room")])
        self.same(list(fates(ORDER, START, ())), [()])
        self.same(list(fates(ORDER, ("end", "a"), ())), [()])
        self.same(list(fates(ORDER, (2, ("who", 0), "broken"), (NEW, LOOK, MARK))), [("skipped", "skipped", "undone")])

    def test_errors_come_with_the_first_result(self):
        for call, error in ((lambda: fates(5, START, LIST), InvalidProgram), (lambda: fates(ORDER, 5, LIST), InvalidStand),
                            (lambda: fates(ORDER, START, 5), InvalidItem), (lambda: fates(ORDER, START, LIST, facts=5), InvalidFacts),
                            (lambda: fates(ORDER, START, (MARK,)), InvalidOperation),
                            (lambda: fates(LONG, first_stand(LONG), (("send", "b", ()),) * 7), TooMany)):
            made = call()
            self.refused(error, next, made)

    def test_a_generator_that_was_not_asked_has_no_errors(self):
        self.assertTrue(hasattr(fates(None, None, None, facts=None), "__next__"))
        self.same(next(fates(ORDER, START, LIST)), ("failed", "skipped", "undone", "failed"))


class BehindTest(Case):
    def test_against_a_second_reckoning(self):
        for seed in range(100):
            dice = seeded(seed)
            made = random_program(dice)
            for stand in reached(made, 4, None, 4):
                listed = Lists(made, stand)
                items = listed.forced_list(4)
                for fate in listed.fates(items)[:20]:
                    for at in range(len(items) + 1):
                        run, _ = listed.behind(items[:at], fate[:at])
                        expected = ("end", run[0]) if isinstance(run, tuple) else run.stand()
                        self.same(stand_behind(made, stand, items[:at], fate[:at]), expected)

    def test_what_is_no_fate(self):
        right = ("ok", "failed", "undone", "full")
        for at in range(4):
            for value in VALUES + ("room", "skipped", "undone", "kept"):
                fate = right[:at] + (value,) + right[at + 1:]
                if fate not in list(fates(ORDER, START, LIST)):
                    self.refused(InvalidOperation, stand_behind, ORDER, START, LIST, fate)
        for fate in VALUES + (right[:3], right + ("ok",), list(right), (), "ok"):
            if fate == ("ok", "ok", "kept", "room"):
                continue
            self.refused(InvalidOperation, stand_behind, ORDER, START, LIST, fate)
        self.same(stand_behind(ORDER, START, (), ()), START)

    def test_an_item_has_to_be_right_behind_this_fate_only(self):
        items = LIST + (NEW,)
        self.assertIs(is_right(ORDER, START, items), False)
        self.same(stand_behind(ORDER, START, items, ("ok", "ok", "kept", "full", "ok")), (7, ("who", 0), "open"))
        self.same(stand_behind(ORDER, START, items, ("ok", "ok", "kept", "failed", "skipped")), ("end", "room"))
        self.refused(InvalidOperation, stand_behind, ORDER, START, items, ("ok", "ok", "kept", "room", "ok"))
        # It need not be right behind its own part of the fate if it comes later.
        self.refused(InvalidOperation, stand_behind, ORDER, START, (MARK,), ("kept",))

    def test_broken_deals(self):
        failed = (("send", "look", (None,)), NEW, ("send", "put", ("who", "x")))
        for many in range(4):
            items = LIST[:1] + failed[:many]
            self.same(stand_behind(ORDER, START, items, ("failed",) + ("skipped",) * many), (2, ("who", None), "broken"))
        self.same(stand_behind(ORDER, START, (NEW, NEW, MARK), ("failed", "skipped", "undone")), (3, ("who", None), "fresh"))
        # A run that has ended in a broken deal stays at its end, also behind marks.
        look = ("send", "look", (None,))
        stand = (3, (None, None), "fresh")
        self.same(stand_behind(ORDER, stand, (look,), ("failed",)), ("end", "room"))
        self.same(stand_behind(ORDER, stand, (look, NEW, MARK), ("failed", "skipped", "undone")), ("end", "room"))
        self.refused(InvalidOperation, stand_behind, ORDER, stand, (look, MARK, NEW), ("failed", "undone", "ok"))
        self.refused(InvalidOperation, stand_behind, ORDER, stand, (look, MARK, MARK), ("failed", "undone", "kept"))

    def test_ends(self):
        self.same(stand_behind(ORDER, ("end", "a"), (), ()), ("end", "a"))
        self.refused(InvalidOperation, stand_behind, ORDER, ("end", "a"), (NEW,), ("ok",))
        self.refused(InvalidOperation, stand_behind, ORDER, ("end", "a"), (MARK,), ("kept",))


class RightTest(Case):
    def test_against_a_second_reckoning(self):
        seen = {True: 0, False: 0}
        for seed in range(120):
            dice = seeded(seed)
            made = random_program(dice)
            facts = random_facts(dice, made.book)
            for stand in reached(made, 3, facts, 3):
                listed = Lists(made, stand, facts)
                items = listed.forced_list(3)
                for at in range(len(items) + 1):
                    for last in dice.choices(listed.all_items(items[:at]), k=4):
                        longer = items[:at] + (last,)
                        expected = listed.is_right(longer)
                        self.assertIs(is_right(made, stand, longer, facts=facts), expected)
                        seen[expected] += 1
                        if expected:
                            self.same(next_item(made, stand, longer, facts=facts), listed.forced(longer, listed.fates(longer)))
                            self.same(list(fates(made, stand, longer, facts=facts)), listed.fates(longer))
                        else:
                            self.refused(InvalidOperation, next_item, made, stand, longer, facts=facts)
        self.assertGreater(min(seen.values()), 100)

    def test_one_item_or_argument_otherwise(self):
        for at in range(5):
            self.assertIs(is_right(ORDER, START, LIST[:at]), True)
        for wrong in ((MARK,), (PUT[:2] + (("x", "who"),),), (LOOK[:2] + ((None,),),), (NEW, PUT[:2] + ((0, None),)), (NEW, PUT[:2] + (("who", 0),)),
                      (NEW, PUT[:2] + ((0, "x"),)), (NEW, PUT[:2] + ((None, "who"),)), (NEW, MARK), (NEW, NEW), LIST[:2] + (LOOK,),
                      LIST[:3] + (LOOK[:2] + ((None,),),), LIST[:3] + (LOOK[:2] + (("x",),),), LIST[:3] + (LOOK[:2] + ((1,),),), LIST + (MARK,),
                      LIST + (NEW,), LIST[:3] + (MARK,)):
            self.assertIs(is_right(ORDER, START, wrong), False, wrong)
            self.refused(InvalidOperation, next_item, ORDER, START, wrong)
            self.refused(InvalidOperation, lambda wrong=wrong: list(fates(ORDER, START, wrong)))
        self.assertIs(is_right(ORDER, START, (NEW, PUT[:2] + ((0, "who"),))), True)

    def test_arguments_that_are_not_the_first_ones(self):
        two = Program(BOOK, ("do", "put", ("a", "b"), None), ("do", "look", ("c",), None), parameters=("b",))
        for arguments in ((None, "b"), ("a", "b"), ("c", "b")):
            self.assertIs(is_right(two, (0, (None, "b", 0), "open"), (("send", "put", arguments),)), arguments != ("c", "b"))
        stand = (0, (0, 1, None), "fresh")
        self.assertIs(is_right(two, stand, (("send", "put", ("a", "b")), ("send", "look", (None,)))), True)
        self.assertIs(is_right(two, stand, (("send", "put", ("a", "b")), ("send", "look", ("c",)))), True)
        self.assertIs(is_right(two, stand, (("send", "put", ("a", "b")), ("send", "look", ("a",)))), False)
        self.assertIs(is_right(two, stand, (("send", "put", ("a", "b")), ("send", "look", (0,)))), False)
        # An index gives nothing if its command was not done, and nothing is what the register holds.
        failed = Program(BOOK, ("do", "new", (), "x"), MARK, ("if", "kept", 4), ("do", "look", ("x",), None), ("last",))
        self.assertIs(is_right(failed, first_stand(failed), (NEW, MARK)), True)
        self.same(stand_behind(failed, first_stand(failed), (NEW, MARK, LOOK), ("failed", "undone", "full")), ("end", "full"))
        self.same(stand_behind(failed, first_stand(failed), (NEW, MARK, LOOK[:2] + ((None,),)), ("failed", "undone", "full")), ("end", "full"))
        gone = Program(BOOK, DO, MARK, ("do", "look", ("x",), None))
        self.assertIs(is_right(gone, first_stand(gone), (NEW, MARK, LOOK)), False)

    def test_what_was_not_done_can_still_be_told_much_later(self):
        # The register holds nothing at last; the index gives nothing where its command was skipped.
        made = Program(BOOK, DO, ("do", "new", (), "x"), MARK, ("if", "kept", 7), DO, MARK, ("do", "look", ("x",), None), ("last",))
        start = first_stand(made)
        items = (NEW, NEW, MARK, NEW, MARK, ("send", "look", (1,)))
        self.assertIs(is_right(made, start, items), False)
        self.same(stand_behind(made, start, items, ("failed", "skipped", "undone", "ok", "kept", "full")), ("end", "full"))
        self.refused(InvalidOperation, stand_behind, made, start, items[:5] + (("send", "look", (3,)),),
                     ("failed", "skipped", "undone", "ok", "kept", "full"))

    def test_broken_deals(self):
        stand = (2, ("who", 0), "broken")
        many = (NEW, ("send", "put", (None, 0)), ("send", "look", ("x",))) * 200
        self.assertIs(is_right(ORDER, stand, many), True)
        self.assertIs(is_right(ORDER, stand, many + (MARK, ("send", "look", ("x",)))), True)
        self.assertIs(is_right(ORDER, stand, many + (MARK, ("send", "look", (0,)))), False)
        self.assertIs(is_right(ORDER, stand, (MARK, MARK)), False)
        self.same(next_item(ORDER, stand, many), MARK)
        self.same(next_item(ORDER, stand, many + (MARK,)), ("send", "look", ("x",)))

    def test_ends(self):
        self.assertIs(is_right(ORDER, ("end", None), ()), True)
        self.same(next_item(ORDER, ("end", None), ()), None)
        for items in ((NEW,), (MARK,), (NEW, MARK), (("send", "look", ("x",)),)):
            self.assertIs(is_right(ORDER, ("end", None), items), False)

    def test_too_many_fates(self):
        stand = first_stand(LONG)
        item = ("send", "b", ())
        self.assertIs(is_right(LONG, stand, (item,) * 6), True)
        for items in ((item,) * 7, (item,) * 7 + (MARK,), (item,) * 40):
            for call in (is_right, next_item, lambda *three: list(fates(*three))):
                self.keeps(TooMany, "limit", 3000, call, LONG, stand, items)
        self.assertIs(is_right(LONG, stand, (item,) * 6 + (MARK,)), False)
        self.refused(InvalidOperation, next_item, LONG, stand, (item,) * 6 + (MARK,) + (item,) * 9)
        facts = Facts(WIDE, b=("x",))
        self.assertIs(is_right(LONG, stand, (item,) * 16, facts=facts), True)
        self.assertIs(is_right(LONG, stand, (item,) * 17, facts=facts), False)
        self.same(stand_behind(LONG, stand, (item,) * 16, ("x",) * 16), ("end", None))

    def test_long_lists_with_sure_outcomes(self):
        start = first_stand(DEALS)
        items = (("send", "b", ()), MARK) * 600
        self.assertIs(is_right(DEALS, start, items, facts=Facts(WIDE, b=("x",))), True)
        self.same(len(next(fates(DEALS, start, items, facts=Facts(WIDE, b=("x",))))), 1200)


class RefusedTest(Case):
    def test_programs_and_stands(self):
        for value in VALUES:
            if not isinstance(value, Program):
                for call in (first_stand, lambda one: is_stand(one, 5), lambda one: thing_at(one, 5), lambda one: is_right(one, 5, 5),
                             lambda one: next_item(one, 5, 5), lambda one: stand_behind(one, 5, 5, 5), lambda one: next(fates(one, 5, 5)),
                             lambda one: forced_list(one, 5, window=5)):
                    self.refused(InvalidProgram, call, value)
            if value != START:
                for call in (thing_at, lambda *two: is_right(*two, 5), lambda *two: next_item(*two, 5), lambda *two: next(fates(*two, 5)),
                             lambda *two: stand_behind(*two, 5, 5), lambda *two: forced_list(*two, window=0)):
                    self.refused(InvalidStand, call, ORDER, value)

    def test_items(self):
        wrong = [(("send", "look", ("y",)),), (("send", "look", (0,)),), (NEW, ("send", "look", (1,))), (NEW, MARK, ("send", "look", (1,))),
                 [NEW], NEW, MARK, (("send", "put", (0, 0)),), (("send", "look", (True,)),), (("send", "look", ("full",)),), (["mark"],)]
        for value in VALUES + tuple(wrong):
            if value not in ((), ITEMS):
                self.refused(InvalidItem, is_right, ORDER, START, value, facts=5)
                self.refused(InvalidItem, next_item, ORDER, START, value, facts=5)
                self.refused(InvalidItem, stand_behind, ORDER, START, value, 5)
                self.refused(InvalidItem, lambda value=value: next(fates(ORDER, START, value, facts=5)))
        self.refused(InvalidItem, is_right, ORDER, ("end", None), (("send", "look", ("y",)),))

    def test_facts_and_windows(self):
        for value in VALUES + (Facts(WIDE),):
            if value is not None and not (isinstance(value, Facts) and value != Facts(WIDE)):
                self.refused(InvalidFacts, is_right, ORDER, START, LIST, facts=value)
                self.refused(InvalidFacts, next_item, ORDER, START, (MARK,), facts=value)
                self.refused(InvalidFacts, forced_list, ORDER, START, window=3, facts=value)
                self.refused(InvalidFacts, lambda value=value: next(fates(ORDER, START, (MARK,), facts=value)))
            if type(value) is not int or not 1 <= value <= 16:
                self.keeps(InvalidNumber, "value", value, lambda value=value: forced_list(ORDER, START, window=value, facts=5))
        for value in (0, 17, -1, True):
            self.keeps(InvalidNumber, "value", value, lambda value=value: forced_list(ORDER, START, facts=5, window=value))
        same = Facts(Book(put=BOOK["put"], new=BOOK["new"], look=BOOK["look"]), new=("ok",))
        self.assertIs(is_right(ORDER, START, LIST, facts=same), True)


if __name__ == "__main__":
    unittest.main()
