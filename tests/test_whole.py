"""What holds over the whole program: the main guarantee [0.19], and what is not true [0.20]."""

import unittest

from skipahead.ahead.forward import Forward
from skipahead.ahead.lists import first_stand, forced_list
from skipahead.ahead.lost import Careful
from skipahead.ahead.windows import least_window, reached_stands
from skipahead.base.books import Book
from skipahead.desk.journal import Client
from skipahead.errors import TooMany
from skipahead.line.facts import Facts
from skipahead.line.servers import Server
from skipahead.plain.alike import alike_paper, are_alike, is_alike_paper
from skipahead.plain.programs import Program
from skipahead.plain.runs import PlainRun
from skipahead.send.judge import GuardedRun, does_same
from skipahead.send.making import made_sender, making_cost, slower_row
from skipahead.send.senders import Sender, SenderRun
from skipahead.text.formats import (
    read_book, read_facts, read_program, read_sender, write_book, write_facts, write_program, write_sender,
)
from tests.examples import BOOK, CAREFUL, LOOP, MARK, ORDER, SURE
from tests.making import deep_program, random_facts, seeded
from tests.oracle import rows
from tests.values import Case


def drawn_server(dice, book, facts):
    """A server of a few states that obeys facts."""
    states = ("a", "b", "c")[:dice.randrange(1, 4)]
    table = {}
    for state in states:
        table[state] = {name: (dice.choice((facts or Facts(book)).outcomes(name)), dice.choice(states)) for name in book}
        table[state]["kept"] = dice.choice(states)
    return Server(book, table, start=states[0])


def told_to(client, server):
    """Tells a client the answers of a server, and returns the work."""
    run = Forward(client.program, server, window=client.window, facts=client.facts)
    while client.state == "waiting" and len(client) < 30:
        answers = run.line.replies[len(run.line) - len(run.pending):]
        run.go()
        client.tell(answers)
    return run


class OneWorkTest(Case):
    def test_one_work_and_one_result(self):
        ended = 0
        for seed in range(160):
            dice = seeded(seed)
            made = deep_program(dice, 14)
            facts = random_facts(dice, made.book)
            window = dice.choice((1, 2, 3, 5))
            try:
                sender = made_sender(made, window=window, facts=facts)
            except TooMany:
                continue
            for _ in range(3):
                server = drawn_server(dice, made.book, facts)
                plain = PlainRun(made, server)
                plain.go(many=300)
                if plain.state != "ended":
                    continue
                runs = [Forward(made, server, window=window, facts=facts), Careful(made, server, doubts=1, window=window, facts=facts),
                        SenderRun(Sender.plain(made), server, window=window), SenderRun(sender, server, window=window)]
                for run in runs:
                    run.go(many=600)
                    self.same((run.state, run.work, run.result), ("ended", plain.work, plain.result))
                self.same(runs[0].progress, runs[3].progress)
                self.assertLessEqual(runs[0].waits, min(run.waits for run in runs))
                client = Client(made, window=window, facts=facts)
                run = told_to(client, server)
                if client.state == "ended":
                    self.same((client.result, client.sequence, run.work), (plain.result, run.line.sequence, plain.work))
                ended += 1
        self.assertGreater(ended, 250)

    def test_alike_programs_and_their_plain_senders(self):
        seen = {True: 0, False: 0}
        for seed in range(200):
            dice = seeded(seed)
            one = deep_program(dice, 8)
            other = one
            for _ in range(dice.randrange(1, 3)):
                try:
                    other = other.replaced(dice.randrange(len(other)), dice.choice(one.lines + (("mark",), ("last",), ("give", "no"))))
                except ValueError:
                    pass
            alike = are_alike(one, other)
            self.assertIs(does_same(one, Sender.plain(other)), alike)
            self.assertIs(does_same(other, Sender.plain(one)), alike)
            seen[alike] += 1
            if alike:
                # How often one has to wait depends on what a program means only.
                for row in list(rows(one, 3))[-2:]:
                    told = []
                    for made in (one, other):
                        run = Forward(made, row, window=4)
                        run.go(many=99)
                        told.append((run.progress, run.waits, run.result, run.line.sequence))
                    self.same(told[0], told[1])
                self.same(least_or_many(one), least_or_many(other))
        self.assertGreater(min(seen.values()), 50)

    def test_other_names(self):
        commands = {"look": "copy", "new": "do", "put": "mark"}
        answers = {"full": "send", "room": "give", "ok": "read"}
        both = {**commands, **answers}
        book = Book.of({commands[name]: (BOOK.takes(name), tuple(sorted(answers[one] for one in BOOK.answers(name)))) for name in BOOK})
        parameters = {"p": "who", "q": "x"}
        for seed in range(120):
            dice = seeded(seed)
            made = deep_program(dice, 14)
            if made.book != BOOK:
                continue
            names = {name: {"p": "who", "q": "x", "x": "z"}[name] for name in made.registers}
            lines = tuple(renamed(line, commands, both, names) for line in made.lines)
            other = Program(book, *lines, parameters=tuple(parameters[name] for name in made.parameters))
            words = {**both, **names}
            for row in list(rows(made, 3))[-3:]:
                runs = [Forward(made, row, window=3), Forward(other, tuple(both.get(one, one) for one in row), window=3)]
                for run in runs:
                    run.go(many=99)
                work, listed, result = spoken((runs[0].work, runs[0].line.sequence, runs[0].result), words)
                self.same((runs[1].work, runs[1].line.sequence, runs[1].result, runs[1].progress), (work, listed, result, runs[0].progress))
            self.same(least_or_many(made), least_or_many(other))
            self.same(cost_or_many(made), cost_or_many(other))

    def test_values_that_are_made_in_other_ways(self):
        joined = Book(look=(1, ("full", "room")), new=(0, ("ok",))) | Book(put=(2, ("ok",)), zzz=(0, ("a",))).without("zzz")
        self.assertEqual(joined, BOOK)
        facts = Facts(joined) & Facts(joined, new=("ok",))
        self.assertEqual((facts, read_facts(joined, write_facts(SURE)), Facts(joined).without("new", "failed")), (SURE,) * 3)
        order = Program(joined, *ORDER.lines[:4], parameters=("who",)) + Program(joined, ("if", "full", 2), ("give", "room"), ("do", "new", (), None),
                                                                                MARK, ("give", "more"), parameters=("who",))
        texts = read_program(read_book(write_book(joined)), write_program(order))
        turned = ORDER.replaced(8, ("last",)).renamed({"x": "y"}).replaced(8, ("give", "more")).renamed({"y": "x"})
        for made in (order, texts, turned):
            self.assertEqual(made, ORDER)
            self.assertIs(are_alike(made, ORDER), True)
            self.assertEqual(made_sender(made, window=4, facts=facts), made_sender(ORDER, window=4, facts=SURE))
            self.assertEqual(read_sender(joined, write_sender(Sender.plain(made))), Sender.plain(ORDER))
            self.same(forced_list(made, first_stand(made), window=9, facts=facts), forced_list(ORDER, first_stand(ORDER), window=9, facts=SURE))
            self.assertEqual(Client(made, facts=facts), Client(ORDER, facts=SURE))


class KeptTest(Case):
    """What a program keeps of earlier questions does not show."""

    def told(self, made, window, facts, bound):
        server = drawn_server(seeded(7), made.book, facts)
        runs = [Forward(made, server, window=window, facts=facts), Careful(made, server, doubts=bound, window=window, facts=facts)]
        for run in runs:
            run.go(many=5)
        try:
            cost, stands = making_cost(made, window=window, facts=facts), reached_stands(made, window=window, facts=facts)
        except TooMany:
            cost, stands = "too many", "too many"
        client = Client(made, window=window, facts=facts)
        return [(run.line.sequence, run.work, run.paper, run.progress, run.result) for run in runs], cost, stands, client.outbox

    def test_many_windows_and_facts(self):
        for seed in range(6):
            dice = seeded(seed)
            made = deep_program(dice, 12)
            questions = [(window, random_facts(dice, made.book), dice.randrange(1, 4)) for window in range(1, 9) for _ in range(6)]
            for window, facts, bound in questions + dice.sample(questions, 20):
                try:
                    expected = self.told(Program(made.book, *made.lines, parameters=made.parameters), window, facts, bound)
                except TooMany:
                    self.keeps(TooMany, "limit", 3000, self.told, made, window, facts, bound)
                    continue
                self.same(self.told(made, window, facts, bound), expected)

    def test_what_was_asked_before(self):
        one, other = Program(BOOK, *CAREFUL.lines), Program(BOOK, *CAREFUL.lines)
        Forward(one, ("ok", "room")).go(many=9)
        self.assertEqual(one, other)
        self.same((are_alike(one, other), str(one), one.lines), (True, str(other), other.lines))


def least_or_many(program):
    try:
        return least_window(program)
    except TooMany:
        return "too many"


def cost_or_many(program):
    try:
        return making_cost(program, window=4)
    except TooMany:
        return "too many"


def renamed(line, commands, both, names):
    """A line of a program with other names of commands, answers and registers."""
    if line[0] == "do":
        return ("do", commands[line[1]], tuple(names[name] for name in line[2]), names.get(line[3]))
    return (line[0],) + tuple(both.get(word, word) for word in line[1:])


def spoken(value, words):
    """A value with other words in it."""
    if isinstance(value, tuple) and value[:1] == ("send",):
        return ("send",) + tuple(spoken(one, words) for one in value[1:])
    if isinstance(value, tuple):
        return tuple(spoken(one, words) for one in value)
    return words.get(value, value) if isinstance(value, str) else value


class NotTrueTest(Case):
    def test_of_two_senders_the_one_with_fewer_reads(self):
        made = Program(BOOK, ("do", "new", (), None), MARK, ("do", "new", (), None), MARK, ("do", "look", ("x",), None), ("last",))
        few = Sender(BOOK, ("send", "new", (), None), MARK, READ, ("send", "new", (), None), MARK, READ, ("send", "look", ("x",), None), READ, READ, READ, ("last",))
        many = Sender(BOOK, ("send", "new", (), None), MARK, ("send", "new", (), None), MARK, ("send", "look", ("x",), None), *[READ] * 5, ("last",))
        self.same((does_same(made, few), does_same(made, many)), (True, True))
        waits = []
        for sender in (few, many):
            run = SenderRun(sender, ("ok", "ok", "full"))
            run.go(many=9)
            waits.append(run.waits)
        self.same((waits[0] > waits[1], slower_row(made, many), len(slower_row(made, few)) > 0), (True, None, True))

    def test_a_mark_that_the_program_sends_has_to_be_sent(self):
        made = Program(BOOK, MARK, ("do", "new", (), None), MARK, MARK, ("give", "a"))
        self.assertIs(does_same(made, Sender(BOOK, ("send", "new", (), None), MARK, ("give", "a"))), True)

    def test_alike_with_servers_that_never_fail(self):
        one = Program(BOOK, ("do", "new", (), None), ("do", "new", (), None), ("last",))
        other = Program(BOOK, ("do", "new", (), None), ("do", "new", (), None), ("give", "ok"))
        self.assertIs(are_alike(one, other), False)
        self.same(Forward(one, ("ok", "ok"), facts=Facts(BOOK, new=("ok",))).result, "ok")

    def test_deals_in_doubt_and_waits(self):
        run = Forward(LOOP, ("ok",) * 4, window=9)
        self.same((run.waits, len([item for item in run.pending if item == MARK])), (0, 4))

    def test_papers_of_each_wait(self):
        for seed in range(60):
            made = deep_program(seeded(seed), 12)
            for row in list(rows(made, 3))[-2:]:
                try:
                    run = Forward(made, row, window=4)
                    while run.state == "waiting":
                        self.assertIn(run.paper[0], ("full", "fork"))
                        run.go()
                except TooMany:
                    pass

    def test_the_papers_of_the_main_guarantee(self):
        self.assertIs(is_alike_paper(ORDER, ORDER, alike_paper(ORDER, ORDER)), True)
        made = made_sender(CAREFUL)
        run = GuardedRun(CAREFUL, made, ("ok", "room"))
        self.same((run.go(many=9), run.result, run.paper[0], run.waits), ("ended", "room", "same", 2))


READ = ("read",)


if __name__ == "__main__":
    unittest.main()
