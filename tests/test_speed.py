"""How long things take that are asked often, as a multiple of a fixed piece of work: two to three times what is needed."""

import unittest

from skipahead.base.books import Book
from skipahead.errors import TooMany
from skipahead.line.servers import Server
from skipahead.plain.alike import alike_paper, are_alike
from skipahead.plain.programs import Program
from skipahead.plain.runs import PlainRun, behind, is_row_of, row_of
from skipahead.send.judge import Guard, GuardedRun, does_same, same_paper
from skipahead.send.senders import Sender, SenderRun, sender_behind
from tests.examples import BOOK
from tests.timing import is_within

READ = ("read",)
AHEAD = (("send", "get", (), None), ("mark",)) * 8 + (READ,) * 16 + (("go", 0),)
GET = Book(get=(0, ("no", "yes")))
ASKING = Program(GET, ("do", "get", (), None), ("mark",), ("go", 0))


class Timed(unittest.TestCase):
    def quick(self, times, call):
        self.assertTrue(is_within(call, times))

    def too_many(self, limit, call):
        """A call that asserts that another one raises TooMany."""
        def asked():
            with self.assertRaises(TooMany) as caught:
                call()
            self.assertEqual(caught.exception.limit, limit)
        return asked


def looping(letters, wrong=False):
    """A program that does a command for each letter, with a mark behind it; perhaps it ends at once with a word."""
    lines = [line for letter in letters for line in (("do", "c", (), letter), ("mark",))] + [("go", 0)]
    if wrong:
        lines.append(("give", "no"))
        lines.insert(1, ("if", "n", len(lines)))
    return Program(Book(c=(0, ("n", "y"))), *lines)


class PairsTest(Timed):
    def test_more_than_three_thousand_pair_states(self):
        one, other = looping("xyzxyzxyzxy"), looping("xxxxyyyyzz", wrong=True)
        self.quick(12, self.too_many(3000, lambda: are_alike(one, other)))
        self.quick(12, self.too_many(3000, lambda: alike_paper(one, other)))

    def test_some_hundred_pair_states(self):
        one, other = looping("xyzx"), looping("xxyyz", wrong=True)
        self.assertEqual(alike_paper(one, other)[0], "parted")
        self.quick(2.8, lambda: are_alike(one, other))
        self.quick(2.8, lambda: alike_paper(one, other))
        other = looping("xxyyz")
        self.assertEqual(len(alike_paper(one, other)[1]), 444)
        self.quick(2.8, lambda: are_alike(one, other))
        self.quick(4, lambda: alike_paper(one, other))


class SamesTest(Timed):
    def test_more_than_three_thousand_states(self):
        sender = Sender(GET, *AHEAD)
        self.quick(6, self.too_many(3000, lambda: does_same(ASKING, sender)))
        self.quick(6, self.too_many(3000, lambda: same_paper(ASKING, sender)))
        self.quick(6, self.too_many(3000, lambda: Guard.check(ASKING, sender)))
        self.quick(6, self.too_many(3000, lambda: GuardedRun(ASKING, sender, ())))

    def test_some_hundreds_fewer(self):
        sender = Sender(GET, *AHEAD[6:26], ("go", 0))
        self.quick(6, lambda: self.assertTrue(does_same(ASKING, sender)))
        self.quick(11, lambda: same_paper(ASKING, sender))


class RowsTest(Timed):
    def test_a_sender_with_three_thousand_outcomes(self):
        sender = Sender(BOOK, *[line if line[0] != "send" else ("send", "new", (), None) for line in AHEAD])
        self.quick(11, lambda: sender_behind(sender, ("ok",) * 3000, window=16))
        steady = Server.steady(BOOK, {"look": "full", "new": "ok", "put": "ok"})
        self.quick(3.5, self.too_many(2000, lambda: SenderRun(sender, steady).go(many=10 ** 9)))

    def test_a_program_with_three_thousand_outcomes(self):
        book = Book(c=(0, ("y",)))
        program = Program(book, ("do", "c", (), "r"), ("mark",), ("go", 0))
        steady = Server.steady(book, {"c": "y"})
        self.quick(2.5, lambda: is_row_of(program, ("y",) * 3000))
        self.quick(2.5, lambda: behind(program, ("y",) * 3000))
        self.quick(2.5, lambda: row_of(program, steady, 3000))
        self.quick(3.2, self.too_many(2000, lambda: PlainRun(program, steady).go(many=2001)))


if __name__ == "__main__":
    unittest.main()
