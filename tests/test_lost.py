"""Lost lines and careful runs [16.1], [16.2]."""

import unittest

from skipahead.ahead.forward import Forward
from skipahead.ahead.lists import first_stand, forced_list, is_right
from skipahead.ahead.lost import Careful, in_doubt, losses
from skipahead.ahead.waits import wait_paper
from skipahead.ahead.windows import reached_stands
from skipahead.errors import (
    InvalidFacts, InvalidItem, InvalidNumber, InvalidOperation, InvalidProgram, InvalidRow, InvalidServer, InvalidStand, NothingToUndo,
    TooMany,
)
from skipahead.line.facts import Facts
from skipahead.line.servers import Server
from skipahead.plain.programs import Program
from skipahead.plain.runs import PlainRun, behind
from tests.examples import BOOK, CAREFUL, LOOP, MARK, NEW, ORDER, SERVER, SURE, TABLE, TURNING, VALUES, numbers
from tests.making import deals_program, deep_program, random_facts, seeded
from tests.oracle_ahead import allowed_rows, losses_model
from tests.test_forward import told
from tests.test_lists import DEALS, LIST, LONG, START, WIDE
from tests.test_runs import TINY
from tests.values import Case

DO = ("do", "new", (), None)
STEADY = Server.steady(BOOK, {"look": "room", "new": "ok", "put": "ok"})
FAILING = Server.steady(BOOK, {"look": "room", "new": "failed", "put": "ok"})


class LossesTest(Case):
    def test_the_examples_of_the_document(self):
        self.same([losses(ORDER, START, LIST), in_doubt(ORDER, START, LIST)], [((), (2,)), 1])
        self.same(in_doubt(LOOP, first_stand(LOOP), forced_list(LOOP, first_stand(LOOP), window=9)), 4)

    def check(self, made, stand, items, facts):
        found = losses_model(made, stand, items, facts)
        self.same(losses(made, stand, items, facts=facts), found)
        self.same(in_doubt(made, stand, items, facts=facts), len({index for loss in found for index in loss}))
        return len(found)

    def test_lists_of_each_length(self):
        many = 0
        for seed in range(120):
            dice = seeded(seed)
            made = deep_program(dice, 14) if seed % 2 else deals_program(dice)
            facts = random_facts(dice, made.book)
            try:
                stands = reached_stands(made, window=6, facts=facts)
            except TooMany:
                continue
            for stand in dice.sample(stands, min(4, len(stands))):
                items = forced_list(made, stand, window=6, facts=facts)
                for length in range(len(items) + 1):
                    many += self.check(made, stand, items[:length], facts) > 2
        self.assertGreater(many, 200)

    def test_stands_in_each_deal(self):
        made = Program(BOOK, DO, MARK, DO, MARK, ("do", "look", ("x",), None), MARK, DO, ("last",))
        for stand, expected in (((0, (None,), "fresh"), 3), ((1, (None,), "open"), 3), ((1, (None,), "broken"), 2), ((2, (0,), "open"), 2),
                                ((3, (None,), "open"), 2), ((5, (None,), "broken"), 0), (("end", "ok"), 0)):
            for facts in (None, SURE, Facts(BOOK, look=("full",))):
                items = forced_list(made, stand, window=6, facts=facts)
                self.check(made, stand, items, facts)
                self.same(in_doubt(made, stand, items), expected)
        self.same(losses(made, (1, (None,), "open"), (MARK,)), ((), (0,)))
        self.same(losses(made, (1, (None,), "broken"), (MARK,)), ((),))
        self.same(losses(made, ("end", None), ()), ((),))
        # Facts without which a deal would perhaps not be kept: all first parts still count.
        self.same(losses(made, (0, (None,), "fresh"), (NEW, MARK, NEW, MARK), facts=SURE), ((), (1,), (1, 3)))
        self.same(losses(made, (0, (None,), "fresh"), (NEW, MARK, NEW, MARK)), ((), (1,), (1, 3), (3,)))

    def test_right_lists_that_are_not_forced(self):
        # Everything is right in a broken deal.
        made = Program(BOOK, DO, ("if", "ok", 4), MARK, DO, MARK, ("last",))
        items = (MARK, NEW)
        self.assertIs(is_right(made, (2, (), "broken"), (NEW, ("send", "look", (0,))) + items), True)
        self.check(made, (2, (), "broken"), (NEW, ("send", "look", (0,))) + items, None)
        self.same(losses(made, (2, (), "broken"), (NEW, NEW) + items), ((),))

    def test_errors(self):
        for call in (losses, in_doubt):
            for value in VALUES + (Facts(TINY),):
                if not isinstance(value, Program):
                    self.refused(InvalidProgram, call, value, 5, 5, facts=5)
                if value != START and not (isinstance(value, tuple) and value[:1] == ("end",)):
                    self.refused(InvalidStand, call, ORDER, value, 5, facts=5)
                if not (isinstance(value, tuple) and (value == () or value[0] in (MARK, NEW))):
                    self.refused(InvalidItem, call, ORDER, START, value, facts=5)
                if value is not None and not (isinstance(value, Facts) and value != Facts(TINY)):
                    self.refused(InvalidFacts, call, ORDER, START, (MARK,), facts=value)
            self.refused(InvalidItem, call, ORDER, START, (("send", "look", ("nobody",)),))
            self.refused(InvalidOperation, call, ORDER, START, (MARK,))
            self.refused(InvalidOperation, call, ORDER, ("end", "a"), (NEW,))
            # Too many fates come ahead of a list that is not right.
            items = (("send", "b", ()),) * 7
            self.keeps(TooMany, "limit", 3000, call, LONG, first_stand(LONG), items)
            self.keeps(TooMany, "limit", 3000, call, LONG, first_stand(LONG), items + (MARK, MARK, MARK))
            self.refused(InvalidOperation, call, LONG, first_stand(LONG), items[:6] + (("send", "a", (None,)),) + items)
        self.same(in_doubt(LONG, first_stand(LONG), (("send", "b", ()),) * 6), 0)


class CarefulTest(Case):
    def test_the_example_of_the_document(self):
        slow = Careful(LOOP, ("ok", "failed", "ok", "ok"), doubts=2, window=9)
        self.same([len(slow.pending), slow.paper, slow.progress, slow.go(), slow.state], [5, ("doubt",), (4,), "paused", "paused"])

    def test_lists_end_ahead_of_a_mark(self):
        seen = {}
        for seed in range(200):
            dice = seeded(seed)
            made = deep_program(dice, 16) if seed % 2 else deals_program(dice)
            facts = random_facts(dice, made.book)
            window, bound = dice.choice((2, 3, 4, 6)), dice.choice((1, 1, 2, 3))
            for row in list(allowed_rows(made, facts, 4))[-3:]:
                run = Careful(made, row, doubts=bound, window=window, facts=facts)
                while True:
                    whole = forced_list(made, run.stand, window=window, facts=facts)
                    paper = self.cut(made, run, whole, bound, window, facts)
                    self.same(run.paper, paper)
                    seen[paper[0]] = seen.get(paper[0], 0) + 1
                    if run.state != "waiting" or len(run) > 12:
                        break
                    run.go()
        self.assertGreater(min(seen.values()), 40)
        self.same(sorted(seen), ["doubt", "ends", "fork", "full"])

    def cut(self, made, run, whole, bound, window, facts):
        """The paper that the document asks for; asserts that the list ends where it has to."""
        many = max(length for length in range(len(whole) + 1) if in_doubt(made, run.stand, whole[:length], facts=facts) <= bound)
        self.same(run.pending, whole[:many])
        if many < len(whole):
            self.same(whole[many], MARK)
            return ("doubt",)
        return wait_paper(made, run.stand, window=window, facts=facts)

    def test_a_list_as_long_as_the_window(self):
        # The next mark would be one too many, but the window is full.
        run = Careful(LOOP, (), doubts=2, window=5)
        self.same((len(run.pending), run.paper), (5, ("full",)))
        self.same((Careful(LOOP, (), doubts=2, window=6).paper, Careful(LOOP, (), doubts=2, window=4).paper), (("doubt",), ("full",)))
        self.same((Careful(LOOP, (), doubts=16).paper, len(Careful(LOOP, (), doubts=16).pending)), (("full",), 16))

    def test_the_work_and_the_result_are_those_of_the_plain_run(self):
        for seed in range(120):
            dice = seeded(seed)
            made = deep_program(dice, 16) if seed % 2 else deals_program(dice)
            for row in list(allowed_rows(made, None, 5))[-4:]:
                work, thing = behind(made, row)
                for bound in (1, 2, 16):
                    try:
                        run = Careful(made, row, doubts=bound, window=6)
                        run.go(many=60)
                    except TooMany:
                        continue
                    if thing[0] == "end":
                        self.same((run.state, run.work, run.result), ("ended", work, thing[1]))
                    else:
                        self.same((run.state, run.work), ("paused", work[:len(run.work)]))
        for server in (SERVER, TURNING, STEADY, FAILING):
            for made in (ORDER, CAREFUL, Program(BOOK, *[DO, MARK] * 8, ("last",))):
                plain = PlainRun(made, server)
                plain.go(many=99)
                for bound in range(1, 17):
                    run = Careful(made, server, doubts=bound)
                    run.go(many=99)
                    self.same((run.state, run.work, run.result), ("ended", plain.work, plain.result))

    def test_each_bound(self):
        made = Program(BOOK, *[DO, MARK] * 8, ("last",))
        waits = []
        for bound in range(1, 17):
            run = Careful(made, STEADY, doubts=bound, facts=SURE)
            run.go(many=99)
            waits.append(run.waits)
            self.same((run.doubts, run.result), (bound, "kept"))
        self.same(waits, [7, 3, 2, 1, 1, 1, 1] + [0] * 9)

    def test_one_deal_is_open_at_the_stand(self):
        made = Program(BOOK, ("do", "look", ("x",), None), ("if", "full", 3), ("give", "no"), DO, MARK, DO, MARK, ("last",))
        run = Careful(made, ("full",), doubts=1)
        self.same((run.go(), run.stand, run.pending, run.paper), ("paused", (3, (None,), "open"), (NEW, MARK, NEW), ("doubt",)))

    def test_too_many_fates_of_its_own_lists_only(self):
        server = Server.steady(WIDE, {"a": "x", "b": "x"})
        self.keeps(TooMany, "limit", 3000, Forward, DEALS, server)
        run = Careful(DEALS, server, doubts=4)
        self.same((len(run.pending), run.paper, run.go(many=3)), (9, ("doubt",), "waiting"))
        self.keeps(TooMany, "limit", 3000, lambda: Careful(DEALS, server, doubts=5))
        self.keeps(TooMany, "limit", 3000, lambda: Careful(LONG, server, doubts=1))
        later = Program(WIDE, ("do", "b", (), None), MARK, ("if", "undone", 19), *LONG.lines)
        run = Careful(later, server, doubts=1)
        before = told(run)
        self.keeps(TooMany, "limit", 3000, run.go)
        self.same(told(run), before)

    def test_errors(self):
        other = Server.steady(TINY, {"a": "ok"})
        for value in VALUES + (other, Facts(TINY), ("nothing",)):
            if not isinstance(value, Program):
                self.refused(InvalidProgram, lambda value=value: Careful(value, 5, doubts=0, window=0, facts=5))
            if value not in ((), SERVER):
                self.refused(InvalidServer, lambda value=value: Careful(ORDER, value, doubts=0, window=0, facts=5))
            if type(value) is not int or not 1 <= value <= 16:
                self.keeps(InvalidNumber, "value", value, lambda value=value: Careful(ORDER, SERVER, doubts=value, window=0, facts=5))
                self.keeps(InvalidNumber, "value", value, lambda value=value: Careful(ORDER, SERVER, doubts=1, facts=5, window=value))
            if value is not None and not (isinstance(value, Facts) and value != Facts(TINY)):
                self.refused(InvalidFacts, lambda value=value: Careful(ORDER, SERVER, doubts=1, facts=value))
        self.keeps(InvalidNumber, "value", 17, lambda: Careful(ORDER, SERVER, window=0, doubts=17))
        self.refused(InvalidOperation, lambda: Careful(CAREFUL, FAILING, doubts=1, facts=SURE))
        self.refused(InvalidRow, lambda: Careful(ORDER, ("room",), doubts=1))
        run = Careful(LOOP, STEADY, doubts=1)
        for value in numbers(10 ** 60):
            self.keeps(InvalidNumber, "value", value, lambda value=value: run.go(many=value))
            self.keeps(InvalidNumber, "value", value, lambda value=value: run.undo(many=value))
        self.keeps(TooMany, "limit", 2000, lambda: run.go(many=10 ** 9))
        self.same((run.waits, len(run.line)), (0, 3))

    def test_undo_trial_twin(self):
        made = Program(BOOK, *[DO, MARK] * 8, ("last",))
        run = Careful(made, SERVER, doubts=2)
        before = [told(run)]
        while run.state == "waiting":
            run.go()
            before.append(told(run))
        for many in range(len(before)):
            twin = run.twin()
            self.assertIs(type(twin), Careful)
            self.same((twin.undo(many=many), told(twin)), (len(run) - many, before[len(run) - many]))
            twin.go(many=many)
            self.same((told(twin), twin.doubts, twin == run), (before[-1], 2, True))
        self.keeps(NothingToUndo, "many", 99, lambda: run.undo(many=99))
        run.undo(many=2)
        now = told(run)
        with run.trial() as same:
            self.assertIs(same, run)
            run.go(many=9)
        self.same(told(run), now)
        self.same((run.during(lambda one: one.go(many=9)), told(run)), ("ended", now))

    def test_equality_and_text(self):
        run = Careful(LOOP, STEADY, doubts=2)
        self.assertIs(run == Careful(LOOP, Server(BOOK, STEADY.table, start="s"), doubts=2, window=16), True)
        self.assertIs(run != Careful(LOOP, STEADY, doubts=2), False)
        others = (Careful(LOOP, STEADY, doubts=3), Careful(LOOP, STEADY, doubts=2, window=15), Careful(LOOP, STEADY, doubts=2, facts=Facts(BOOK)),
                  Careful(CAREFUL, STEADY, doubts=2), Careful(LOOP, (), doubts=2), Forward(LOOP, STEADY), 2)
        for other in others:
            self.assertIs(run == other, False)
            self.assertIs(other == run, False)
            self.assertIs(run != other, True)
        # Also where the bound is never reached.
        self.assertIs(Careful(ORDER, SERVER, doubts=9) == Forward(ORDER, SERVER), False)
        self.assertIs(Forward(ORDER, SERVER) == Careful(ORDER, SERVER, doubts=9), False)
        run.go(many=2)
        self.assertIs(run == Careful(LOOP, STEADY, doubts=2), False)
        self.same((str(run), len(run), isinstance(run, Forward)), ("careful run behind 2 waits, waiting", 2, True))
        run = Careful(ORDER, Server(BOOK, TABLE, start="a"), doubts=1)
        self.same((run.go(many=3), str(run), run.result), ("ended", "careful run behind 1 waits, ended", "more"))
        for value in VALUES:
            self.assertIs(run == value, False)
        self.refused(TypeError, iter, run)


if __name__ == "__main__":
    unittest.main()
