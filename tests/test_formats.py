"""Texts [17.1], [17.2]."""

import unittest

from skipahead.base.books import Book
from skipahead.errors import (
    InvalidBook, InvalidFacts, InvalidItem, InvalidProgram, InvalidRow, InvalidSender, ParseError,
)
from skipahead.line.facts import Facts
from skipahead.plain.programs import Program
from skipahead.send.making import made_sender
from skipahead.send.senders import Sender
from skipahead.text.formats import (
    read_book, read_facts, read_items, read_program, read_row, read_sender, write_book, write_facts, write_items, write_program, write_row,
    write_sender,
)
from tests.examples import BOOK, CAREFUL, ITEMS, LOOP, MARK, NEW, ORDER, QUICK, SURE, VALUES
from tests.making import BOOKS, deep_program, random_facts, seeded
from tests.making_senders import random_sender
from tests.oracle_texts import book_fault, code_fault, facts_fault, items_fault, row_fault
from tests.test_lists import LIST
from tests.values import Case

# Commands, answers, registers and parameters that are words of lines and texts.
WORDS = Book(command=(0, ("give",)), copy=(1, ("command", "last", "mark")), do=(2, ("do",)), mark=(0, ("if", "send")), read=(1, ("none",)))
WORDY = Program(
    WORDS, ("do", "do", ("mark", "do"), "last"), ("do", "mark", (), None), ("if", "send", 4), ("mark",), ("do", "copy", ("last",), "mark"),
    ("give", "give"), parameters=("do", "mark"))
WORDY_SENDER = Sender(
    WORDS, ("send", "do", ("mark", "do"), "copy"), ("send", "read", ("copy",), None), ("copy", "copy", "mark"), ("copy", "go", None), ("mark",),
    ("read",), ("if", "if", 0), ("go", 9), ("give", "read"), parameters=("do", "mark"))


def books(dice):
    names = ["a", "b", "mark", "do", "look", "zzzzzzzz", "command"]
    told = {}
    for name in dice.sample(names, dice.randrange(1, 7)):
        told[name] = (dice.randrange(3), tuple(sorted(dice.sample(["ok", "no", "yes", "full", "command"], dice.randrange(1, 4)))))
    return Book.of(told)


def items_of(dice, book, many):
    items = []
    for at in range(many):
        command = dice.choice(book.commands)
        earlier = [number for number, item in enumerate(items) if item != MARK]
        told = tuple(dice.choice([None, "who", "p"] + earlier) for _ in range(book.takes(command)))
        items.append(MARK if dice.randrange(4) == 0 else ("send", command, told))
    return tuple(items)


def edited(dice, text):
    """A text with one or more signs, words or lines put in, left out, changed or exchanged."""
    for _ in range(dice.choice((1, 1, 1, 2, 3))):
        kind = dice.randrange(3)
        joint = ("", " ", "\n")[kind]
        parts = list(text) if kind == 0 else text.split(joint)
        pool = (list("az 0129\n-_A\t.>"), ["do", "mark", "who", "failed", "0", "7", "01", "-", "->", "", "ok", "kept", "last", "x" * 9, "1" * 61],
                ["mark", "read", "go 0", "go 99", "parameters who", "parameters p q", "", "do new", "send new", "last", "command b 0 ok", "new ok"])[kind]
        at = dice.randrange(len(parts) + 1)
        action = dice.randrange(4)
        if action == 0 or at == len(parts):
            parts.insert(at, dice.choice(pool))
        elif action == 1:
            del parts[at]
        elif action == 2:
            parts[at] = dice.choice(pool)
        else:
            other = dice.randrange(len(parts))
            parts[at], parts[other] = parts[other], parts[at]
        text = joint.join(parts)
    return text


class WriteTest(Case):
    def test_the_examples_of_the_document(self):
        self.same([write_program(CAREFUL), read_program(BOOK, write_program(ORDER)) == ORDER, write_items(LIST[:2]), write_facts(SURE)],
                  ["do new -> x\nmark\nif kept 4\ngive no\ndo look x\nlast", True, "send new\nsend put 0 who", "new ok"])

    def test_each_kind_of_line(self):
        self.same(write_book(BOOK), "command look 1 full room\ncommand new 0 ok\ncommand put 2 ok")
        self.same(write_program(ORDER), "parameters who\ndo new -> x\ndo put x who\nmark\ndo look x\nif full 6\ngive room\ndo new\nmark\ngive more")
        self.same(write_sender(WORDY_SENDER), "parameters do mark\nsend do mark do -> copy\nsend read copy\ncopy copy mark\ncopy go\nmark\nread\n"
                                              "if if 0\ngo 9\ngive read")
        self.same(write_items((("send", "look", (None,)), MARK, ("send", "put", ("who", 10 ** 60 - 1)))), "send look -\nmark\nsend put who " + "9" * 60)
        self.same((write_row(("ok", "failed")), write_row(())), ("ok failed", ""))
        self.same(write_facts(Facts(BOOK, look=("room",), new=("failed", "ok"), put=("ok",))), "look room\nput ok")
        self.same((write_items(()), write_facts(Facts(BOOK))), ("", ""))

    def test_written_and_read_again(self):
        for seed in range(200):
            dice = seeded(seed)
            book = books(dice)
            self.assertEqual(read_book(write_book(book)), book)
            items = items_of(dice, book, dice.randrange(8))
            self.same(read_items(book, write_items(items)), items)
            known = [outcome for command in book for outcome in book.outcomes(command)]
            row = tuple(dice.choices(known, k=dice.randrange(6)))
            self.same(read_row(book, write_row(row)), row)
            facts = random_facts(dice, book) or Facts(book)
            self.assertEqual(read_facts(book, write_facts(facts)), facts)
            made = deep_program(dice)
            self.assertEqual(read_program(made.book, write_program(made)), made)
            other = random_sender(dice, made)
            self.assertEqual(read_sender(made.book, write_sender(other)), other)
            for one, text in ((book, write_book), (made, write_program), (other, write_sender), (facts, write_facts)):
                self.same(text(one), text(one))
        for made in (ORDER, CAREFUL, LOOP):
            self.assertEqual(read_sender(BOOK, write_sender(made_sender(made, window=4))), made_sender(made, window=4))

    def test_names_that_are_words_of_lines(self):
        self.assertEqual(read_book(write_book(WORDS)), WORDS)
        self.assertEqual(read_program(WORDS, write_program(WORDY)), WORDY)
        self.assertEqual(read_sender(WORDS, write_sender(WORDY_SENDER)), WORDY_SENDER)
        items = (("send", "mark", ()), MARK, ("send", "read", ("send",)), ("send", "do", ("mark", 0)))
        self.same(read_items(WORDS, write_items(items)), items)
        facts = Facts(WORDS, mark=("if",), copy=("last", "mark"))
        self.assertEqual(read_facts(WORDS, write_facts(facts)), facts)

    def test_what_is_passed(self):
        calls = ((write_book, Book, InvalidBook), (write_program, Program, InvalidProgram), (write_sender, Sender, InvalidSender),
                 (write_facts, Facts, InvalidFacts))
        for call, kind, error in calls:
            for value in VALUES:
                if not isinstance(value, kind):
                    self.refused(error, call, value)
        for value in VALUES:
            if not (isinstance(value, tuple) and all(isinstance(one, tuple) and one[:1] in (("send",), ("mark",)) for one in value)):
                self.refused(InvalidItem, write_items, value)
            if not (isinstance(value, tuple) and all(isinstance(one, str) for one in value)):
                self.refused(InvalidRow, write_row, value)

    def test_items_of_some_books(self):
        # Different books for each item; an index is only asked for its form.
        self.same(write_items((("send", "a", ()), ("send", "a", (7,)), ("send", "a", (None, "kept")))), "send a\nsend a 7\nsend a - kept")
        for item in (("send", "failed", ()), ("send", "a", (1, 2, 3)), ("send", "a", [1]), ("send", "a", (-1,)), ("send", "a", (True,)), ("send", "A", ()),
                     ("send", "a", 3), ("send", "a", None), ("send", "a"), ("mark", "a"), ["mark"], ("do", "a", ()), ("send", None, ()), "mark", ("mark", (), ())):
            self.refused(InvalidItem, write_items, (MARK, item))
        self.refused(InvalidItem, write_items, [MARK])
        for row in (("A",), ("",), ("ok", None), ["ok"], "ok", ("abcdefghi",), (("ok",),)):
            self.refused(InvalidRow, write_row, row)
        self.same(write_row(("kept", "any")), "kept any")


class ReadTest(Case):
    def number(self, call, *args):
        """The number in the ParseError of a call, or None if it raises none."""
        try:
            call(*args)
        except ParseError as error:
            return error.number
        return None

    def test_edited_texts(self):
        seen = {}
        for seed in range(2500):
            dice = seeded(seed)
            book = dice.choice(BOOKS + (BOOK, WORDS))
            made = dice.choice((ORDER, CAREFUL, WORDY)) if dice.randrange(3) == 0 else deep_program(dice, 9)
            facts = random_facts(dice, book) or Facts(book, **{book.commands[0]: book.answers(book.commands[0])[:1]})
            known = [outcome for command in book for outcome in book.outcomes(command)]
            kinds = {
                "book": (lambda text: read_book(text), write_book, book_fault, write_book(book)),
                "program": (lambda text: read_program(made.book, text), write_program, lambda text: code_fault(made.book, text, "do"), write_program(made)),
                "sender": (lambda text: read_sender(made.book, text), write_sender, lambda text: code_fault(made.book, text, "send"),
                           write_sender(random_sender(dice, made))),
                "items": (lambda text: read_items(book, text), write_items, lambda text: items_fault(book, text), write_items(items_of(dice, book, 5))),
                "row": (lambda text: read_row(book, text), write_row, lambda text: row_fault(book, text), write_row(tuple(dice.choices(known, k=4)))),
                "facts": (lambda text: read_facts(book, text), write_facts, lambda text: facts_fault(book, text), write_facts(facts)),
            }
            for kind, (read, write, fault, text) in kinds.items():
                text = edited(dice, text)
                found = self.number(read, text)
                self.same((kind, text, found), (kind, text, fault(text)))
                if found is None:
                    self.same(write(read(text)), text)
                key = (kind, "right" if found is None else "whole" if found == len(text.split("\n")) else "line")
                seen[key] = seen.get(key, 0) + 1
        for kind in ("book", "program", "sender", "items", "row", "facts"):
            self.assertGreater(seen[kind, "right"], 100)
            self.assertGreater(seen[kind, "line"], 500)
        for kind in ("program", "sender", "row"):
            self.assertGreater(seen[kind, "whole"], 10)

    def test_wholes_that_are_no_value(self):
        seven = "\n".join(f"command {name} 0 ok" for name in "abcdefg")
        self.same((self.number(read_book, seven), self.number(read_book, seven[:-15])), (7, None))
        self.same([self.number(read_program, BOOK, "\n".join(["do new"] * many)) for many in (24, 25)], [None, 25])
        self.same([self.number(read_sender, BOOK, "\n".join(["send new"] * many)) for many in (400, 401)], [None, 401])
        self.same([self.number(read_program, BOOK, text) for text in (
            "go 1", "go 2", "do new\ngo 0", "do new\nmark\ngo 0", "mark\ngo 0", "do new -> a\ndo new -> b\ndo new -> c\ndo new -> d", "parameters a",
            "parameters a b\ndo new -> c\ndo new -> d", "do new\nparameters a", "parameters a\nparameters a\nlast", "go " + "9" * 60, "do new\ngo " + "9" * 61,
        )], [None, 1, 2, None, 2, 4, 1, 3, 2, 3, 1, 1])
        self.same([self.number(read_row, BOOK, text) for text in ("ok\nok", "ok\n", "\nok", "ok\nno", "ok room failed full", "kept")], [2, 1, 0, 1, None, 0])

    def test_lines_that_cannot_stand_behind_others(self):
        self.same([self.number(read_book, text) for text in ("command b 0 ok\ncommand a 0 ok", "command a 0 ok\ncommand a 0 ok", "command a 0 b a",
                                                             "command a 3 ok", "command a 00 ok", "command a 0", "command failed 0 ok", "command a 0 kept",
                                                             "command a 0 a b c d", "")], [1, 1, 0, 0, 0, 0, 0, 0, 0, 0])
        self.same([self.number(read_items, BOOK, text) for text in ("send look 0", "mark\nsend look 0", "send new\nsend look 0\nsend look 1\nsend look 4",
                                                                    "send new\nsend look 00", "send look -", "send look", "mark\n", " mark")], [0, 1, 3, 1, None, 0, 1, 0])
        self.same([self.number(read_facts, BOOK, text) for text in ("new ok\nlook full", "look full\nlook room", "look failed full room", "look failed", "new",
                                                                    "look room full", "new ok\nput ok", "none ok")], [1, 1, 0, 0, 0, 0, None, 0])

    def test_empty_texts(self):
        self.same((read_items(BOOK, ""), read_row(BOOK, "")), ((), ()))
        self.assertEqual(read_facts(BOOK, ""), Facts(BOOK))
        for call in (lambda text: read_book(text), lambda text: read_program(BOOK, text), lambda text: read_sender(BOOK, text)):
            self.same(self.number(call, ""), 0)

    def test_long_numbers(self):
        self.same([self.number(read_items, BOOK, "send new\nsend look " + "1" * many) for many in (60, 61)], [1, 1])
        self.same([self.number(read_program, BOOK, "do new\ngo " + "1" * many) for many in (60, 61)], [2, 1])
        # A number is just a number: nothing else that counts as a digit.
        self.same([self.number(read_program, BOOK, "do new\ngo " + sign) for sign in ("\u0661", "\u00b2", "1\u0661", "+1", "-0", "1_0")], [1] * 6)

    def test_what_is_passed(self):
        calls = (read_program, read_sender, read_items, read_row, read_facts)
        for value in VALUES:
            if not isinstance(value, str):
                self.keeps(ParseError, "number", 0, read_book, value)
                for call in calls:
                    self.keeps(ParseError, "number", 0, call, BOOK, value)
            if not isinstance(value, Book):
                for call in calls:
                    self.refused(InvalidBook, call, value, 5)
                    self.refused(InvalidBook, call, value, "mark")

    def test_the_book_decides(self):
        self.same((self.number(read_program, WORDS, "do new"), self.number(read_program, BOOK, "do command")), (0, 0))
        self.same((self.number(read_row, WORDS, "ok"), self.number(read_facts, WORDS, "new ok"), self.number(read_items, WORDS, "send new")), (0, 0, 0))
        self.same(read_items(BOOK, write_items(ITEMS)), ITEMS)
        self.same(read_items(BOOK, "send new"), (NEW,))
        self.assertEqual(read_sender(BOOK, write_sender(QUICK)), QUICK)


if __name__ == "__main__":
    unittest.main()
