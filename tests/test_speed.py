"""How long things take that are asked often, as a multiple of a fixed piece of work: two to three times what is needed."""

import unittest

from skipahead.ahead.forward import Forward
from skipahead.ahead.lists import fates, first_stand, forced_list
from skipahead.ahead.lost import losses
from skipahead.ahead.saving import do_save, least_savings
from skipahead.ahead.windows import full_row, least_window, reached_stands
from skipahead.base.books import Book
from skipahead.desk.journal import Client
from skipahead.errors import TooMany
from skipahead.line.line import sent
from skipahead.line.servers import Server
from skipahead.plain.alike import alike_paper, are_alike
from skipahead.plain.programs import Program
from skipahead.plain.runs import PlainRun, behind, is_row_of, row_of
from skipahead.send.judge import Guard, GuardedRun, does_same, same_paper
from skipahead.send.making import made_sender, making_cost, slower_row
from skipahead.send.senders import Sender, SenderRun, sender_behind
from skipahead.text.columns import columns
from skipahead.text.formats import read_sender, write_sender
from tests.examples import BOOK, CAREFUL, LOOP
from tests.test_lists import LONG
from tests.timing import is_within

READ = ("read",)
AHEAD = (("send", "get", (), None), ("mark",)) * 8 + (READ,) * 16 + (("go", 0),)
GET = Book(get=(0, ("no", "yes")))
ASKING = Program(GET, ("do", "get", (), None), ("mark",), ("go", 0))


class Timed(unittest.TestCase):
    def quick(self, times, call):
        self.assertTrue(is_within(call, times))

    def too_many(self, limit, call):
        """A call that asserts that another one raises TooMany."""
        def asked():
            with self.assertRaises(TooMany) as caught:
                call()
            self.assertEqual(caught.exception.limit, limit)
        return asked


def looping(letters, wrong=False):
    """A program that does a command for each letter, with a mark behind it; perhaps it ends at once with a word."""
    lines = [line for letter in letters for line in (("do", "c", (), letter), ("mark",))] + [("go", 0)]
    if wrong:
        lines.append(("give", "no"))
        lines.insert(1, ("if", "n", len(lines)))
    return Program(Book(c=(0, ("n", "y"))), *lines)


class PairsTest(Timed):
    def test_more_than_three_thousand_pair_states(self):
        one, other = looping("xyzxyzxyzxy"), looping("xxxxyyyyzz", wrong=True)
        self.quick(12, self.too_many(3000, lambda: are_alike(one, other)))
        self.quick(12, self.too_many(3000, lambda: alike_paper(one, other)))

    def test_some_hundred_pair_states(self):
        one, other = looping("xyzx"), looping("xxyyz", wrong=True)
        self.assertEqual(alike_paper(one, other)[0], "parted")
        self.quick(2.8, lambda: are_alike(one, other))
        self.quick(2.8, lambda: alike_paper(one, other))
        other = looping("xxyyz")
        self.assertEqual(len(alike_paper(one, other)[1]), 444)
        self.quick(2.8, lambda: are_alike(one, other))
        self.quick(4, lambda: alike_paper(one, other))


class SamesTest(Timed):
    def test_more_than_three_thousand_states(self):
        sender = Sender(GET, *AHEAD)
        self.quick(6, self.too_many(3000, lambda: does_same(ASKING, sender)))
        self.quick(6, self.too_many(3000, lambda: same_paper(ASKING, sender)))
        self.quick(6, self.too_many(3000, lambda: Guard.check(ASKING, sender)))
        self.quick(6, self.too_many(3000, lambda: GuardedRun(ASKING, sender, ())))

    def test_some_hundreds_fewer(self):
        sender = Sender(GET, *AHEAD[6:26], ("go", 0))
        self.quick(6, lambda: self.assertTrue(does_same(ASKING, sender)))
        self.quick(11, lambda: same_paper(ASKING, sender))


class RowsTest(Timed):
    def test_a_sender_with_three_thousand_outcomes(self):
        sender = Sender(BOOK, *[line if line[0] != "send" else ("send", "new", (), None) for line in AHEAD])
        self.quick(11, lambda: sender_behind(sender, ("ok",) * 3000, window=16))
        steady = Server.steady(BOOK, {"look": "full", "new": "ok", "put": "ok"})
        self.quick(3.5, self.too_many(2000, lambda: SenderRun(sender, steady).go(many=10 ** 9)))

    def test_a_program_with_three_thousand_outcomes(self):
        book = Book(c=(0, ("y",)))
        program = Program(book, ("do", "c", (), "r"), ("mark",), ("go", 0))
        steady = Server.steady(book, {"c": "y"})
        self.quick(2.5, lambda: is_row_of(program, ("y",) * 3000))
        self.quick(2.5, lambda: behind(program, ("y",) * 3000))
        self.quick(2.5, lambda: row_of(program, steady, 3000))
        self.quick(3.2, self.too_many(2000, lambda: PlainRun(program, steady).go(many=2001)))


class ForwardTest(Timed):
    def setUp(self):
        self.book = Book(get=(0, ("no", "yes")), put=(1, ("ok",)))
        self.lines = (
            ("do", "get", (), "a"), ("if", "no", 5), ("do", "put", ("a",), None), ("mark",), ("go", 0), ("do", "get", (), "b"), ("mark",),
            ("do", "put", ("b",), None), ("give", "no"))
        self.rows = [("yes", "ok") * many + ("no", "yes", "ok") for many in range(6)]

    def six_runs(self, program):
        """Six forward runs along rows of one program."""
        for row in self.rows:
            run = Forward(program, row, window=4)
            run.go(many=10 ** 12)
            self.assertEqual((run.work, run.result), (run.line.work, "no"))

    def test_runs_along_rows(self):
        self.quick(0.6, lambda: self.six_runs(Program(self.book, *self.lines)))
        program = Program(self.book, *self.lines)
        self.quick(0.4, lambda: self.six_runs(program))

    def test_a_line_with_more_items(self):
        run = Forward(Program(self.book, *self.lines), self.rows[-1], window=4)
        run.go(many=99)

        def tried():
            for _ in range(50):
                line = run.line
                for _ in range(3):
                    line.send(("send", "get", ()), outcome="yes")
                    line.send(("mark",))
                line.undo(many=len(line))
        self.quick(0.6, tried)


class LimitsTest(Timed):
    """At the limits that the document names, each call ends in reasonable time."""

    def setUp(self):
        book = Book(c=(0, ("y",)), d=(1, ("n", "y")), e=(2, ("y",)))
        lines = [line for at in range(11) for line in (("do", "e", ("pqx"[at % 3], "pqx"[at % 2]), "pqx"[(at + 1) % 3]), ("mark",))]
        self.deals = Program(book, *lines, ("go", 0), parameters=("p", "q"))
        # Three thousand fates in one list, and a fork behind it.
        self.wide = Program(book, *[("do", "d", ("p",), None)] * 7, ("if", "y", 10), ("mark",), ("give", "no"), ("do", "c", (), None), parameters=("p",))

    def anew(self, program):
        return Program(program.book, *program.lines, parameters=program.parameters)

    def test_many_stands(self):
        self.assertGreater(len(reached_stands(self.deals)), 80)
        self.quick(100, lambda: reached_stands(self.anew(self.deals)))
        self.quick(300, lambda: least_window(self.anew(self.deals)))
        self.quick(60, lambda: full_row(self.anew(self.deals), window=8))
        self.quick(60, lambda: slower_row(self.anew(self.deals), Sender.plain(self.deals), window=6))
        self.quick(30, lambda: made_sender(CAREFUL))

    def test_many_fates(self):
        program = LONG
        stand = first_stand(program)
        items = forced_list(program, stand, window=6)
        self.assertEqual(len(list(fates(program, stand, items))), 1093)
        self.quick(30, lambda: losses(program, stand, items))
        self.quick(30, lambda: list(fates(program, stand, items)))
        self.quick(150, lambda: making_cost(self.anew(program), window=6))
        stand = first_stand(self.wide)
        self.quick(300, lambda: least_savings(self.wide, stand))

    def test_many_least_outs(self):
        # Two tracks of six levels with the same commands, which part only at their ends.
        book = Book(**{name: (0, ("x", "y", "z")) for name in "abcdef"})
        lines = [("do", "a", (), None), ("if", "x", 13)]
        for track in range(2):
            for level, name in enumerate("bcdef"):
                lines += [("do", name, (), None), ("if", "xyzxy"[level] if track else "yzxxz"[level], 13 - 11 * track + 2 * level + 2)]
            lines.append(("give", "no" if track else "yes"))
        made = Program(book, *lines)
        found = least_savings(made, first_stand(made), window=6)
        self.assertGreater(len(found), 60)
        for outs in found[::9]:
            self.assertTrue(do_save(made, first_stand(made), outs, window=6))
        self.quick(900, lambda: least_savings(made, first_stand(made), window=6))

    def test_senders_that_are_made(self):
        made = Program(BOOK, *[("do", "new", (), "x"), ("do", "look", ("x",), None), ("mark",)] * 3, ("last",))
        self.quick(60, lambda: self.assertGreater(making_cost(self.anew(made), window=5), 250))
        self.quick(60, lambda: made_sender(self.anew(made), window=5))

    def test_texts(self):
        sender = Sender(BOOK, *[("send", "put", ("x", "y"), "x")] * 400)
        text = write_sender(sender)
        self.quick(12, lambda: read_sender(BOOK, text))
        line = sent(BOOK, (("mark",),) * 2000, ())
        self.quick(8, lambda: columns(line))
        client = Client(LOOP, window=2)
        self.quick(30, lambda: [client.tell(("ok", "kept")) for _ in range(500)])


if __name__ == "__main__":
    unittest.main()
