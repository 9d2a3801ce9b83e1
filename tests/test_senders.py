"""Senders [0.15]."""

import unittest

from skipahead.base.books import Book
from skipahead.errors import InvalidBook, InvalidNumber, InvalidOperation, InvalidProgram, InvalidSender
from skipahead.plain.programs import Program
from skipahead.send import senders
from skipahead.send.senders import Sender, is_sender
from tests.examples import BOOK, CAREFUL, LOOP, MARK, ORDER, QUICK, VALUES, numbers
from tests.making import random_program, seeded
from tests.values import Case

SEND = ("send", "new", (), None)
READ = ("read",)
WORDS = ("a", "ok", "failed", "kept", "send", "mark")


class MakingTest(Case):
    def yes(self, *lines, parameters=()):
        """Asserts that these are the lines of a sender, which each way of making makes."""
        self.assertIs(is_sender(BOOK, lines, parameters=parameters), True, lines)
        made = Sender(BOOK, *lines, parameters=parameters)
        self.assertIs(type(made), Sender)
        self.same((made.lines, made.parameters), (lines, parameters))
        self.assertEqual(made, Sender.of(BOOK, lines, parameters=parameters))

    def no(self, *lines, parameters=()):
        """Asserts that these are not the lines of a sender."""
        self.assertIs(is_sender(BOOK, lines, parameters=parameters), False, lines)
        self.refused(InvalidSender, Sender, BOOK, *lines, parameters=parameters)
        self.refused(InvalidSender, Sender.of, BOOK, lines, parameters=parameters)

    def test_constants(self):
        self.same((senders.MAX_LINES, senders.MAX_REGISTERS), (400, 24))

    def test_each_form_of_line(self):
        for line in (SEND, ("send", "new", (), "x"), ("send", "look", ("x",), "y"), ("send", "put", ("x", "x"), None), MARK, READ,
                     ("copy", "x", "y"), ("copy", "x", "x"), ("copy", "x", None), ("if", "failed", 1), ("go", 1), ("give", "kept"), ("last",)):
            self.yes(line)
            self.yes(SEND, line, READ)

    def test_one_thing_changed_at_each_place(self):
        for line in (("send", "put", ("x", "y"), "z"), MARK, READ, ("copy", "x", "y"), ("if", "ok", 1), ("go", 1), ("give", "no"), ("last",)):
            for value in VALUES:
                if not isinstance(value, str):
                    self.no((value,) + line[1:])
                self.no(line + (value,))
            if len(line) > 1:
                self.no(line[:-1])
        for value in VALUES:
            name = isinstance(value, str) and value in WORDS
            if value not in BOOK:
                self.no(("send", value, ("x", "y"), None))
            named = isinstance(value, tuple) and all(isinstance(one, str) and one in WORDS + ("b",) for one in value)
            for command in BOOK:
                (self.yes if named and len(value) == BOOK.takes(command) else self.no)(("send", command, value, None))
            for line in (("send", "put", ("x", value), None), ("copy", value, "x"), ("copy", value, None), ("give", value), ("if", value, 1)):
                (self.yes if name else self.no)(line)
            for line in (("send", "new", (), value), ("copy", "x", value)):
                (self.yes if name or value is None else self.no)(line)
            number = type(value) is int and 0 <= value <= 1
            (self.yes if number else self.no)(("go", value))
            (self.yes if number else self.no)(("if", "ok", value))
            if value != MARK:
                self.no(value)
                self.no(SEND, value)

    def test_words_that_are_none_of_a_sender(self):
        for line in (("do", "new", (), None), ("copy", "x"), ("copy",), ("read", None), ["read"], "read", ("send", "new", ()),
                     ("copy", "x", "y", "z"), ("copy", "X", "y"), ("copy", None, "x"), ("copy", "x", 0), ("copy", "x", ("y",))):
            self.no(line)
            self.no(SEND, line)

    def test_any_rounds(self):
        for lines in ((("go", 0),), (SEND, ("go", 0)), (MARK, ("go", 0)), (READ, ("if", "ok", 0)), (("copy", "x", "y"), ("go", 0))):
            self.yes(*lines)
        self.no(("go", 2))
        self.no(("go", True))
        self.no(("if", "ok", -1))

    def test_lines_and_registers_and_one_more(self):
        self.no()
        self.yes(*[SEND] * 400)
        self.no(*[SEND] * 401)
        self.yes(*[READ] * 399, ("go", 400))
        many = [("copy", "r" + "abcdefghijklmnopqrstuvwxyz"[at], None) for at in range(24)]
        self.yes(*many)
        self.no(*many, ("copy", "s", None))
        self.no(*many, ("copy", "ra", "s"))
        self.no(*many, ("send", "look", ("s",), None))
        self.no(*many, ("send", "new", (), "s"))
        self.no(*many, parameters=("s",))
        self.yes(*many, parameters=("ra", "rb"))

    def test_parameters_that_are_none(self):
        for value in VALUES + (("b", "a"), ("a", "a"), ("a", "b", "c"), ["a"], "a", ("A",), ("a", None)):
            if value not in ((), ("a",), ("mark",), ("kept",), ("a", "b"), ("ok",)):
                self.refused(InvalidSender, Sender, BOOK, SEND, parameters=value)
                self.refused(InvalidSender, Sender.of, BOOK, (SEND,), parameters=value)
                self.refused(InvalidSender, is_sender, BOOK, 5, parameters=value)

    def test_other_values(self):
        for value in VALUES + ([SEND], SEND, {0: SEND}):
            if value not in (QUICK.lines, (MARK,)):
                self.refused(InvalidSender, Sender.of, BOOK, value)
                self.assertIs(is_sender(BOOK, value), False)
            if not isinstance(value, Book):
                self.refused(InvalidBook, Sender, value, 5, parameters=5)
                self.refused(InvalidBook, Sender.of, value, 5)
                self.refused(InvalidBook, is_sender, value, 5, parameters=5)


class PropertiesTest(Case):
    def test_what_was_passed(self):
        self.assertEqual(QUICK.book, BOOK)
        self.same((QUICK.parameters, QUICK.registers, QUICK.commands), (("who",), ("who", "x"), ("look", "new", "put")))
        made = Sender(BOOK, ("copy", "c", "a"), ("copy", "b", None), READ)
        self.same((made.registers, made.commands), (("a", "b", "c"), ()))
        self.same((str(QUICK), str(made)), ("sender of 13 lines, 2 registers", "sender of 3 lines, 3 registers"))

    def test_following(self):
        self.same([QUICK.following(at) for at in (0, 2, 4, 8, 9, 12)], [(1,), (3,), (5,), (9, 10), (), ()])
        made = Sender(BOOK, ("copy", "x", "y"), ("go", 0), ("if", "ok", 1), ("if", "ok", 4), ("last",))
        self.same([made.following(at) for at in range(5)], [(1,), (0,), (1, 3), (4,), ()])
        for value in numbers(13) + [13]:
            self.keeps(InvalidNumber, "value", value, QUICK.following, value)
            self.keeps(InvalidNumber, "value", value, QUICK.__getitem__, value)
            self.keeps(InvalidNumber, "value", value, QUICK.replaced, value, 5)

    def test_lines_iteration_and_membership(self):
        self.same((tuple(QUICK), len(QUICK), QUICK[4]), (QUICK.lines, 13, READ))
        for value in VALUES:
            self.assertIs(value in QUICK, value == MARK)
        made = Sender(BOOK, ("go", 1), ("if", "ok", 0))
        self.same([("go", 1) in made, ("go", True) in made, ("if", "ok", 0) in made, ("if", "ok", False) in made], [True, False, True, False])

    def test_replaced_and_renamed(self):
        made = QUICK.replaced(9, ("give", "more"))
        self.same((made[9], made[8], QUICK[9]), (("give", "more"), QUICK[8], ("give", "room")))
        for value in VALUES:
            if value != MARK:
                self.refused(InvalidSender, QUICK.replaced, 0, value)
        made = Sender(BOOK, ("copy", "a", "b"), ("copy", "b", None), ("send", "put", ("a", "p"), "b"), parameters=("p",))
        self.same(made.renamed({"a": "b", "b": "a"}).lines, (("copy", "b", "a"), ("copy", "a", None), ("send", "put", ("b", "p"), "a")))
        self.assertEqual(made.renamed({}), made)
        for names in ({"a": "b"}, {"p": "q"}, {"p": "p"}, {"a": "p"}, {"z": "a"}, {"a": "A"}, {"a": None}, {1: "a"}, {"a": "z", "b": "z"}, [], 5):
            self.refused(InvalidOperation, made.renamed, names)
        self.same((made.renamed({"a": "z"}).parameters, made.registers), (("p",), ("a", "b", "p")))

    def test_no_sums(self):
        self.refused(TypeError, lambda: QUICK + QUICK)

    def test_equality(self):
        self.assertIs(QUICK == Sender(BOOK, *QUICK.lines, parameters=("who",)), True)
        wider = Sender(BOOK | Book(zz=(0, ("ok",))), *QUICK.lines, parameters=("who",))
        for other in (wider, Sender(BOOK, *QUICK.lines), QUICK.replaced(0, SEND), Sender.plain(ORDER), ORDER):
            self.assertIs(QUICK == other, False)
            self.assertIs(QUICK != other, True)
        # Of equal lines, but a program.
        self.assertIs(Sender(BOOK, ("last",)) == Program(BOOK, ("last",)), False)
        self.assertIs(Program(BOOK, ("last",)) == Sender(BOOK, ("last",)), False)
        for value in VALUES:
            if not isinstance(value, Sender):
                self.assertIs(QUICK == value, False)
                self.assertIs(value == QUICK, False)


class PlainTest(Case):
    def test_the_lines(self):
        self.same(Sender.plain(CAREFUL).lines, (
            ("send", "new", (), "x"), READ, MARK, READ, ("if", "kept", 6), ("give", "no"), ("send", "look", ("x",), None), READ, ("last",)))
        self.same(Sender.plain(LOOP).lines, (SEND, READ, MARK, READ, ("go", 0)))
        made = Program(BOOK, ("go", 4), ("if", "ok", 0), MARK, ("do", "new", (), None), ("if", "ok", 2))
        self.same(Sender.plain(made).lines, (("go", 6), ("if", "ok", 0), MARK, READ, SEND, READ, ("if", "ok", 2)))
        self.same(Sender.plain(Program(BOOK, ("go", 1))).lines, (("go", 1),))
        self.same(Sender.plain(Program(BOOK, MARK, ("if", "kept", 2))).lines, (MARK, READ, ("if", "kept", 3)))
        self.same((Sender.plain(ORDER).parameters, Sender.plain(ORDER).book == BOOK, type(Sender.plain(ORDER))), (("who",), True, Sender))
        self.same(len(Sender.plain(Program(BOOK, *[("do", "new", (), None)] * 24))), 48)

    def test_jumps_to_each_line_and_behind(self):
        for seed in range(60):
            made = random_program(seeded(seed))
            sender = Sender.plain(made)
            starts = [at for at, line in enumerate(sender) if line != READ] + [len(sender)]
            for at, line in enumerate(made):
                told = sender[starts[at]]
                if line[0] in ("if", "go"):
                    self.same(told, line[:-1] + (starts[line[-1]],))
                else:
                    self.same(told, ("send",) + line[1:] if line[0] == "do" else line)

    def test_what_is_no_program(self):
        for value in VALUES:
            if not isinstance(value, Program):
                self.refused(InvalidProgram, Sender.plain, value)


if __name__ == "__main__":
    unittest.main()
