"""Facts that save a wait [15.1], [0.18]."""

import unittest

from skipahead.ahead import saving
from skipahead.ahead.lists import fates, first_stand, forced_list
from skipahead.ahead.saving import do_save, least_savings, with_outs
from skipahead.ahead.waits import wait_paper
from skipahead.ahead.windows import reached_stands
from skipahead.base.books import Book
from skipahead.errors import (
    InvalidBook, InvalidFacts, InvalidNumber, InvalidOperation, InvalidProgram, InvalidStand, TooMany,
)
from skipahead.line.facts import Facts
from skipahead.plain.programs import Program
from tests.examples import BOOK, CAREFUL, LOOP, MARK, ORDER, SURE, VALUES
from tests.making import deep_program, random_facts, seeded
from tests.oracle import Lists
from tests.oracle_ahead import savings_model, saves_model
from tests.test_lists import LONG, START, WIDE
from tests.test_runs import TINY
from tests.values import Case

DO = ("do", "new", (), None)
# What are no outs of BOOK.
WRONG = (
    [("look", "full")], (("look", "full"), ("look", "full")), (("new", "failed"), ("look", "full")), (("look", "room"), ("look", "full")),
    (("look", "full"), ("look", "room")), (("new", "ok"),), (("new", "failed"), ("new", "ok")), (("none", "ok"),), (("new", "room"),),
    (("look",),), (["look", "full"],), ("look", "full"), (("look", "full", "x"),), (("look", None),), ((0, "full"),), (("kept", "kept"),),
    (("look", ["full"]),), (([], "full"),),
)


def forks(made, window, facts, most=60):
    """The stands with forks and not too many fates, reached or not."""
    found = []
    ways = [(None,) if name not in made.parameters else (None, name) for name in made.registers]
    held = [tuple(way[0] for way in ways), tuple(way[-1] for way in ways), tuple(range(len(ways)))]
    stands = list(reached_stands(made, window=window, facts=facts))
    for at, line in enumerate(made.lines):
        if line[0] == "do":
            stands += [(at, one, deal) for one in held for deal in ("fresh", "open")]
    for stand in dict.fromkeys(stands):
        if wait_paper(made, stand, window=window, facts=facts)[0] == "fork":
            items = forced_list(made, stand, window=window, facts=facts)
            if len(list(fates(made, stand, items, facts=facts))) <= most:
                found.append((stand, items))
    return found


class SavingTest(Case):
    def test_the_examples_of_the_document(self):
        self.same([least_savings(ORDER, START), do_save(ORDER, START, (("look", "failed"), ("put", "failed")))],
                  [((("look", "full"),), (("look", "room"),)), False])
        self.same([len(forced_list(ORDER, START, window=16, facts=with_outs(BOOK, (("look", "room"),)))), str(with_outs(BOOK, ()))], [6, "no facts"])
        self.same(saving.MAX_SETS, 1000)

    def test_against_a_second_reckoning(self):
        seen = {}
        for seed in range(140):
            dice = seeded(seed)
            made = deep_program(dice, 12)
            facts = random_facts(dice, made.book)
            window = dice.choice((1, 2, 3, 4, 5))
            found = forks(made, window, facts, 40)
            for stand, items in dice.sample(found, min(3, len(found))):
                lists = Lists(made, stand, facts)
                told = least_savings(made, stand, window=window, facts=facts)
                self.same(told, savings_model(made, lists, items))
                seen[len(told)] = seen.get(len(told), 0) + 1
                for outs in told:
                    self.assertIs(do_save(made, stand, outs, window=window, facts=facts), True)
                    for at in range(len(outs)):
                        self.assertIs(do_save(made, stand, outs[:at] + outs[at + 1:], window=window, facts=facts), False)
                pairs = [(name, one) for name in made.book for one in lists.choices[name] if one == "failed" or one != lists.choices[name][-1]]
                outs = tuple(sorted(dice.sample(pairs, dice.randrange(len(pairs) + 1))))
                if all(any(one != "failed" and (name, one) not in outs for one in lists.choices[name]) for name in made.book):
                    self.assertIs(do_save(made, stand, outs, window=window, facts=facts), saves_model(lists, items, outs))
        self.assertGreater(sum(seen.values()), 150)

    def test_two_tracks(self):
        # The same commands in both, and each outcome may lead to the other one: only at the end it shows which one it was.
        book = Book(a=(0, ("x", "y")), b=(0, ("x", "y")), c=(0, ("x", "y")))
        seen = {}
        for seed in range(60):
            dice = seeded(seed)
            levels = dice.choices(book.commands, k=3)
            lines = []
            for track in range(2):
                for level, command in enumerate(levels):
                    lines += [("do", command, (), None), ("if", dice.choice(("x", "y", "failed", "skipped")), 7 - 7 * track + 2 * level + 2)]
                lines.append(("give", "no" if track else "yes"))
            made = Program(book, *lines)
            stand = first_stand(made)
            if wait_paper(made, stand, window=16)[0] == "fork":
                told = least_savings(made, stand)
                self.same(told, savings_model(made, Lists(made, stand), forced_list(made, stand, window=16)))
                seen[len(told)] = seen.get(len(told), 0) + 1
        self.assertGreater(len(seen), 4)

    def test_outs_save_the_wait_for_a_forward_run(self):
        for stand, _ in forks(ORDER, 16, None):
            for outs in least_savings(ORDER, stand):
                facts = with_outs(BOOK, outs)
                self.assertTrue(len(forced_list(ORDER, stand, window=16, facts=facts)) > len(forced_list(ORDER, stand, window=16))
                                or wait_paper(ORDER, stand, window=16, facts=facts)[0] == "ends")

    def test_outs_that_are_left_out_by_the_facts_already(self):
        stand = first_stand(CAREFUL)
        self.same(least_savings(CAREFUL, stand), ((("new", "failed"),),))
        self.same((do_save(CAREFUL, stand, (("look", "failed"), ("new", "failed"))), do_save(CAREFUL, stand, ())), (True, False))
        told = least_savings(CAREFUL, stand, facts=SURE)
        self.same(told, ((("look", "failed"), ("look", "full")), (("look", "failed"), ("look", "room"))))
        self.assertIs(do_save(CAREFUL, stand, told[0] + (("new", "failed"),), facts=SURE), True)

    def test_values_of_registers(self):
        # Whether the register holds something decides what the last command is asked about.
        made = Program(BOOK, ("do", "new", (), "x"), MARK, ("if", "kept", 4), ("do", "new", (), "y"), ("do", "put", ("x", "y"), None), ("give", "a"))
        stand = first_stand(made)
        self.same(least_savings(made, stand), ((("new", "failed"),),))
        for window in (2, 3):
            self.same(least_savings(made, stand, window=window), ((("new", "failed"),),))
        self.refused(InvalidOperation, least_savings, made, stand, window=1)

    def test_ends_in_broken_deals(self):
        # Two failures end in different ways; but what is right behind the others is right there, too.
        made = Program(BOOK, ("do", "look", ("p",), None), ("if", "failed", 9), ("if", "full", 6), ("do", "new", (), None), ("if", "failed", 10),
                       ("do", "put", ("p", "p"), None), ("do", "new", (), None), ("if", "failed", 10), ("give", "c"), ("give", "a"), ("give", "b"),
                       parameters=("p",))
        stand = first_stand(made)
        self.same(least_savings(made, stand)[0], (("look", "failed"), ("look", "room"), ("new", "failed")))
        self.same(least_savings(made, stand)[1:], ((("look", "full"),),))
        self.same(least_savings(made, stand), savings_model(made, Lists(made, stand), forced_list(made, stand, window=16)))
        self.assertIs(do_save(made, stand, (("look", "full"),)), True)
        self.assertIs(do_save(made, stand, (("look", "room"),)), False)

    def test_several_pairs(self):
        wide = Book(a=(0, ("x", "y", "z")), b=(0, ("n",)))
        made = Program(wide, ("do", "a", (), None), ("if", "x", 3), ("give", "no"), ("do", "b", (), None), ("give", "no"))
        self.same(least_savings(made, first_stand(made)), ((("a", "x"),), (("a", "y"), ("a", "z"))))
        facts = Facts(wide, a=("x", "y"))
        self.same(least_savings(made, first_stand(made), facts=facts), ((("a", "x"),), (("a", "y"),)))

    def test_too_many_sets(self):
        most = saving.MAX_SETS
        try:
            saving.MAX_SETS = 1
            self.keeps(TooMany, "limit", 1, least_savings, ORDER, START)
            self.same(len(least_savings(CAREFUL, first_stand(CAREFUL))), 1)
            saving.MAX_SETS = 2
            self.same(len(least_savings(ORDER, START)), 2)
        finally:
            saving.MAX_SETS = most

    def test_errors(self):
        ends = Program(BOOK, ("give", "a"))
        for call in (lambda *args, **more: do_save(*args, (), **more), least_savings):
            for value in VALUES + (Facts(TINY), (0, ("who", 1), "fresh"), (9, ("who", None), "fresh")):
                if not isinstance(value, Program):
                    self.refused(InvalidProgram, call, value, 5, window=0, facts=5)
                if value != START:
                    if not (isinstance(value, tuple) and value[:1] == ("end",)):
                        self.refused(InvalidStand, call, ORDER, value, window=0, facts=5)
                if type(value) is not int or not 1 <= value <= 16:
                    self.keeps(InvalidNumber, "value", value, lambda: call(ORDER, START, facts=5, window=value))
                if value is not None and not (isinstance(value, Facts) and value != Facts(TINY)):
                    self.refused(InvalidFacts, call, ORDER, START, facts=value)
            self.keeps(TooMany, "limit", 3000, call, LONG, first_stand(LONG))
            self.refused(InvalidOperation, call, ORDER, START, window=3)
            self.refused(InvalidOperation, call, ends, first_stand(ends))
            self.refused(InvalidOperation, call, ORDER, ("end", "a"))
            self.refused(InvalidOperation, call, LOOP, first_stand(LOOP))

    def test_what_are_no_outs(self):
        for value in VALUES + WRONG:
            if value != ():
                self.refused(InvalidFacts, do_save, ORDER, START, value, window=0, facts=5)
                self.refused(InvalidFacts, do_save, LONG, first_stand(LONG), value)
                self.refused(InvalidFacts, with_outs, BOOK, value, facts=5)
                self.refused(InvalidFacts, with_outs, BOOK, value)
        # Together with the facts no answer is left.
        facts = Facts(BOOK, look=("failed", "full"))
        self.refused(InvalidFacts, do_save, ORDER, START, (("look", "full"),), window=0, facts=facts)
        self.refused(InvalidFacts, with_outs, BOOK, (("look", "full"),), facts=facts)
        self.keeps(InvalidNumber, "value", 0, lambda: do_save(ORDER, START, (("look", "full"),), window=0, facts=5))

    def test_facts_without_outs(self):
        self.assertEqual(with_outs(BOOK, (("look", "failed"), ("new", "failed"))), Facts(BOOK, look=("full", "room"), new=("ok",)))
        self.assertEqual(with_outs(BOOK, (("look", "room"),), facts=SURE), Facts(BOOK, look=("failed", "full"), new=("ok",)))
        self.assertEqual(with_outs(BOOK, (("new", "failed"),), facts=SURE), SURE)
        self.assertEqual(with_outs(BOOK, (), facts=SURE), SURE)
        for value in VALUES:
            if not isinstance(value, Book):
                self.refused(InvalidBook, with_outs, value, 5, facts=5)
            if value is not None and not isinstance(value, Facts):
                self.refused(InvalidFacts, with_outs, BOOK, (), facts=value)
        self.refused(InvalidFacts, with_outs, WIDE, (), facts=SURE)


if __name__ == "__main__":
    unittest.main()
