"""Clients: interface of stage 18, with [8.1] to [8.5], [10.1] and [16.1]."""

import unittest

from skipahead.ahead.forward import Forward
from skipahead.ahead.lists import fates, first_stand, forced_list
from skipahead.ahead.lost import losses
from skipahead.desk.journal import Client
from skipahead.errors import (
    InvalidFacts, InvalidNumber, InvalidOperation, InvalidProgram, NothingToUndo, TooMany,
)
from skipahead.line.facts import Facts
from skipahead.line.servers import Server
from skipahead.plain.programs import Program
from tests.examples import BOOK, CAREFUL, LOOP, MARK, NEW, ORDER, SERVER, SURE, TURNING, VALUES, numbers
from tests.making import deep_program, random_facts, seeded
from tests.test_lists import DEALS, LONG, WIDE
from tests.test_runs import TINY
from tests.values import Case

DO = ("do", "new", (), None)
FATE = ("ok", "ok", "kept", "full")
ENDED = ("failed", "skipped", "undone", "room")


def told(client):
    """All that a client tells without arguments."""
    return (client.window, client.facts, client.stand, client.outbox, client.state, client.result, client.log, client.sequence, client.lost(),
            len(client), list(client), str(client))


class TellTest(Case):
    def test_the_example_of_the_document(self):
        client = Client(ORDER)
        self.same([len(client.outbox), client.tell(FATE), client.state, client.result, client.lost()],
                  [4, (NEW, MARK), "ended", "more", ((), (1,))])

    def test_it_stands_as_a_forward_run_does(self):
        waits = 0
        for seed in range(150):
            dice = seeded(seed)
            made = deep_program(dice, 16)
            facts = random_facts(dice, made.book)
            window = dice.choice((1, 2, 3, 5))
            left = {name: dice.choice((facts or Facts(made.book)).outcomes(name)) for name in made.book}
            try:
                run, client = Forward(made, Server.steady(made.book, left), window=window, facts=facts), Client(made, window=window, facts=facts)
                for _ in range(8):
                    self.same((client.outbox, client.stand, client.result), (run.pending, run.stand, run.result))
                    self.same((client.state, len(client)), (run.state, run.waits))
                    self.same(client.sequence, run.line.sequence)
                    self.same(client.lost(), losses(made, run.stand, run.pending, facts=facts))
                    if run.state == "ended":
                        break
                    begin = len(run.line) - len(run.pending)
                    answers = run.line.replies[begin:]
                    run.go()
                    self.same(client.tell(answers), run.pending)
                    self.same(client[-1 + len(client)], answers)
                    waits += 1
            except TooMany:
                pass
        self.assertGreater(waits, 200)

    def test_every_fate_is_taken_and_nothing_else(self):
        for seed in range(60):
            dice = seeded(seed)
            made = deep_program(dice, 10)
            facts = random_facts(dice, made.book)
            client = Client(made, window=3, facts=facts)
            if client.state == "ended":
                continue
            stand, items = first_stand(made), client.outbox
            known = list(fates(made, stand, items, facts=facts))
            before = told(client)
            for fate in known:
                other = Client(made, window=3, facts=facts)
                other += fate
                self.same(other.log, (fate,))
                for at, answer in enumerate(fate):
                    for wrong in ("ok", "failed", "skipped", "kept", "undone", "none", None, 0, True):
                        near = fate[:at] + (wrong,) + fate[at + 1:]
                        if near not in known:
                            self.refused(InvalidOperation, client.tell, near)
                    self.refused(InvalidOperation, client.tell, fate[:at] + fate[at + 1:])
                self.refused(InvalidOperation, client.tell, fate + ("ok",))
                self.refused(InvalidOperation, client.tell, list(fate))
            self.same(told(client), before)

    def test_a_run_that_has_ended(self):
        client = Client(ORDER)
        client.tell(FATE)
        before = told(client)
        for answers in (("ok", "kept"), ("failed", "undone"), (), 5):
            self.refused(InvalidOperation, client.tell, answers)
        self.same(told(client), before)
        client = Client(Program(BOOK, ("give", "a")))
        self.same((client.outbox, client.state, client.result, client.log, client.sequence, client.lost()), ((), "ended", "a", (), (), ((),)))
        self.refused(InvalidOperation, client.tell, ())

    def test_in_place(self):
        client = same = Client(ORDER)
        client += FATE
        self.assertIs(client, same)
        self.same((client.log, client.result), ((FATE,), "more"))
        client = same = Client(ORDER)
        for value in (FATE[:3], list(FATE)) + tuple(value for value in VALUES if not (isinstance(value, tuple) and len(value) == 4)):
            try:
                client += value
            except InvalidOperation as error:
                self.assertIs(type(error), InvalidOperation)
            else:
                self.fail(value)
        self.same((client is same, len(client)), (True, 0))

    def test_arguments_on_the_line(self):
        client = Client(ORDER, window=2)
        client.tell(("ok", "ok"))
        self.same(client.sequence, (NEW, ("send", "put", (0, "who")), MARK, ("send", "look", (0,))))
        client = Client(ORDER, window=2)
        client.tell(("failed", "skipped"))
        self.same(client.sequence[2:], (MARK, ("send", "look", (None,))))

    def test_too_many_fates_later(self):
        later = Program(WIDE, ("do", "b", (), None), MARK, ("if", "undone", 19), *LONG.lines)
        client = Client(later)
        before = told(client)
        self.keeps(TooMany, "limit", 3000, client.tell, ("x", "kept"))
        self.same(told(client), before)
        self.same(client.tell(("failed", "undone")), ())


class WindowTest(Case):
    def test_wider_windows(self):
        for use in (lambda client, window: client.widen(window), self.assign):
            client = Client(ORDER, window=2)
            self.assertIsNone(use(client, 3))
            self.same((client.window, client.outbox), (3, forced_list(ORDER, first_stand(ORDER), window=3)))
            client.tell(("ok", "failed", "undone"))
            use(client, 16)
            self.same((client.sequence, client.state), ((NEW, ("send", "put", (0, "who")), MARK, ("send", "look", (0,))), "waiting"))
            client.tell(("full",))
            self.same((client.result, client.sequence[4:]), ("more", (NEW, MARK)))

    def assign(self, client, window):
        client.window = window

    def test_later_lists_have_the_window(self):
        client = Client(LOOP, window=1)
        client.tell(("ok",))
        client.widen(5)
        self.same((client.stand, len(client.outbox)), ((1, (), "open"), 5))
        client.tell(("kept", "ok", "kept", "ok", "kept"))
        self.same((len(client.outbox), len(client.sequence)), (5, 11))
        client.undo()
        self.same((len(client.outbox), client.window), (5, 5))
        self.keeps(NothingToUndo, "many", 1, client.undo)

    def test_the_present_window_is_a_change_too(self):
        client = Client(LOOP, window=2)
        client.tell(("ok", "kept"))
        client.tell(("ok", "kept"))
        client.undo()
        client.window = 2
        self.same((len(client), client.window), (1, 2))
        self.keeps(NothingToUndo, "many", 1, client.undo)
        self.keeps(NothingToUndo, "many", 1, client.redo)

    def test_errors(self):
        for use in (lambda client, window: client.widen(window), self.assign):
            client = Client(ORDER, window=3)
            client.tell(FATE[:3])
            client.undo()
            before = told(client)
            for value in VALUES + (0, 17, 10 ** 60 - 1):
                if type(value) is not int or not 1 <= value <= 16:
                    self.keeps(InvalidNumber, "value", value, use, client, value)
            for value in (1, 2):
                self.refused(InvalidOperation, use, client, value)
            self.same(told(client), before)
            # Nothing was forgotten.
            self.same((client.redo(), client.undo()), (1, 0))
            client = Client(DEALS, window=7)
            self.keeps(TooMany, "limit", 3000, use, client, 16)
            self.same((client.window, len(client.outbox)), (7, 7))


class UndoTest(Case):
    def test_undo_and_redo(self):
        client = Client(LOOP, window=2)
        states = [told(client)]
        for answers in (("ok", "kept"), ("failed", "undone"), ("ok", "kept")):
            client.tell(answers)
            states.append(told(client))
        self.same((client.undo(), told(client)), (2, states[2]))
        self.same((client.undo(many=2), told(client)), (0, states[0]))
        self.same((client.redo(), told(client)), (1, states[1]))
        self.same((client.redo(many=2), told(client)), (3, states[3]))
        self.same((client.undo(many=0), client.redo(many=0)), (3, 3))
        self.keeps(NothingToUndo, "many", 1, client.redo)
        self.keeps(NothingToUndo, "many", 4, lambda: client.undo(many=4))
        self.same(told(client), states[3])

    def test_a_new_tuple_forgets_what_was_undone(self):
        client = Client(LOOP, window=2)
        client.tell(("ok", "kept"))
        client.undo()
        self.refused(InvalidOperation, client.tell, ("ok", "undone"))
        self.same((client.redo(), client.undo()), (1, 0))
        client.tell(("failed", "undone"))
        self.keeps(NothingToUndo, "many", 1, client.redo)
        self.same(client.log, (("failed", "undone"),))

    def test_not_beyond_a_change_of_the_window(self):
        client = Client(LOOP, window=1)
        client.tell(("ok",))
        client.tell(("kept",))
        client.widen(2)
        client.tell(("ok", "kept"))
        self.keeps(NothingToUndo, "many", 2, lambda: client.undo(many=2))
        self.same((client.undo(), client.log, client.window), (2, (("ok",), ("kept",)), 2))
        self.keeps(NothingToUndo, "many", 1, client.undo)
        self.same((client.redo(), len(client)), (3, 3))
        client.undo()
        client.widen(3)
        self.keeps(NothingToUndo, "many", 1, client.redo)

    def test_numbers(self):
        client = Client(ORDER)
        client.tell(FATE)
        for value in numbers(10 ** 60):
            self.keeps(InvalidNumber, "value", value, lambda value=value: client.undo(many=value))
            self.keeps(InvalidNumber, "value", value, lambda value=value: client.redo(many=value))
        self.keeps(NothingToUndo, "many", 10 ** 60 - 1, lambda: client.undo(many=10 ** 60 - 1))
        for value in numbers(1):
            self.keeps(InvalidNumber, "value", value, lambda value=value: client[value])
        self.same((client[0], len(client), list(client)), (FATE, 1, [FATE]))


class ClientTest(Case):
    def test_what_is_passed(self):
        for value in VALUES + (Facts(TINY),):
            if not isinstance(value, Program):
                self.refused(InvalidProgram, Client, value, window=0, facts=5)
            if type(value) is not int or not 1 <= value <= 16:
                self.keeps(InvalidNumber, "value", value, lambda value=value: Client(ORDER, facts=5, window=value))
            if value is not None and not (isinstance(value, Facts) and value != Facts(TINY)):
                self.refused(InvalidFacts, Client, LONG, facts=value)
        self.keeps(TooMany, "limit", 3000, Client, LONG)
        self.same(len(Client(LONG, window=6).outbox), 6)

    def test_equality(self):
        client = Client(ORDER)
        self.assertIs(client == Client(ORDER, window=16, facts=None), True)
        self.assertIs(client != Client(ORDER), False)
        for other in (Client(ORDER, window=15), Client(ORDER, facts=Facts(BOOK)), Client(CAREFUL), Forward(ORDER, SERVER), ORDER):
            self.assertIs(client == other, False)
            self.assertIs(client != other, True)
        self.assertIs(Client(CAREFUL, facts=SURE) == Client(CAREFUL, facts=Facts(BOOK, new=("ok",))), True)
        client.tell(FATE)
        self.assertIs(client == Client(ORDER), False)
        other = Client(ORDER)
        other.tell(ENDED)
        self.assertIs(client == other, False)
        # Neither the way to the window nor what was undone counts.
        other = Client(ORDER, window=4)
        other.widen(16)
        other.tell(ENDED)
        other.undo()
        other.tell(FATE)
        self.assertIs(client == other, True)
        other.undo()
        client.undo()
        self.assertIs(client == other, True)
        for value in VALUES:
            self.assertIs(client == value, isinstance(value, Client))

    def test_what_it_tells_of_itself(self):
        client = Client(ORDER, window=4, facts=SURE)
        self.same((client.window, client.facts == SURE, client.program == ORDER, str(client)), (4, True, True, "client behind 0 waits, waiting"))
        client.tell(FATE)
        self.same((str(client), client.log, [answers for answers in client]), ("client behind 1 waits, ended", (FATE,), [FATE]))
        self.assertIsNone(Client(ORDER).facts)
        self.same((Client(Program(BOOK, DO)).result, Client(Program(BOOK, DO)).state), (None, "ended"))

    def test_a_server_of_several_states(self):
        for made in (ORDER, CAREFUL):
            for window in (1, 2, 16):
                run, client = Forward(made, TURNING, window=window), Client(made, window=window)
                while run.state == "waiting":
                    answers = run.line.replies[len(run.line) - len(run.pending):]
                    run.go()
                    client.tell(answers)
                self.same((client.result, client.sequence, client.state), (run.result, run.line.sequence, "ended"))


if __name__ == "__main__":
    unittest.main()
