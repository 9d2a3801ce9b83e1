"""Programs [0.14]."""

import unittest

from skipahead.base.books import Book
from skipahead.errors import InvalidBook, InvalidNumber, InvalidOperation, InvalidProgram
from skipahead.plain import programs
from skipahead.plain.programs import Program, is_program
from tests.examples import BOOK, CAREFUL, LOOP, MARK, ORDER, VALUES, numbers
from tests.making import random_program, seeded
from tests.values import Case

DO = ("do", "new", (), None)
OTHER_BOOK = Book(look=(1, ("full", "room")), new=(0, ("ok",)))


class MakingTest(Case):
    def yes(self, *lines, parameters=()):
        """Asserts that these are the lines of a program, which each way of making makes."""
        self.assertIs(is_program(BOOK, lines, parameters=parameters), True, lines)
        made = Program(BOOK, *lines, parameters=parameters)
        self.assertIs(type(made), Program)
        self.same((made.lines, made.parameters), (lines, parameters))
        self.assertEqual(made, Program.of(BOOK, lines, parameters=parameters))

    def no(self, *lines, parameters=()):
        """Asserts that these are not the lines of a program."""
        self.assertIs(is_program(BOOK, lines, parameters=parameters), False, lines)
        self.refused(InvalidProgram, Program, BOOK, *lines, parameters=parameters)
        self.refused(InvalidProgram, Program.of, BOOK, lines, parameters=parameters)

    def test_the_examples_of_the_document(self):
        self.same([ORDER.registers, ORDER.following(4), ORDER.following(8), ORDER[2]], [("who", "x"), (5, 6), (), MARK])
        self.same([MARK in CAREFUL, str(CAREFUL)], [True, "program of 6 lines, 1 registers"])
        self.no(DO, ("go", 0))
        self.yes(DO, MARK, ("if", "kept", 0))

    def test_constants(self):
        self.same((programs.MAX_LINES, programs.MAX_REGISTERS, programs.MAX_PARAMETERS), (24, 3, 2))

    def test_one_to_twenty_four_lines(self):
        self.no()
        self.yes(("last",))
        self.yes(*[DO] * 24)
        self.no(*[DO] * 25)
        self.yes(*[MARK] * 23, ("go", 24))
        self.no(*[MARK] * 24, ("go", 24))

    def test_each_form_of_line(self):
        for line in (DO, ("do", "new", (), "x"), ("do", "look", ("x",), "y"), ("do", "put", ("x", "x"), None), MARK, ("last",),
                     ("if", "failed", 1), ("if", "nothing", 1), ("go", 1), ("give", "failed"), ("give", "abcdefgh"),
                     ("do", "put", ("kept", "do"), "mark")):
            self.yes(line)
            self.yes(line, DO)

    def test_one_thing_changed_at_each_place(self):
        lines = (("do", "put", ("x", "y"), "z"), MARK, ("if", "ok", 2), ("go", 3), ("give", "no"), ("last",))
        for line in lines:
            for value in VALUES:
                if not isinstance(value, str):
                    self.no((value,) + line[1:])
                self.no(line + (value,))
                if line != MARK:
                    self.no(line[:-1])
        for value in VALUES:
            if value not in BOOK:
                self.no(("do", value, ("x", "y"), None))
            named = isinstance(value, tuple) and all(isinstance(one, str) and one in ("a", "b", "mark", "kept", "ok") for one in value)
            for command in BOOK:
                (self.yes if named and len(value) == BOOK.takes(command) else self.no)(("do", command, value, None))
            name = isinstance(value, str) and value in ("a", "ok", "failed", "kept", "send", "mark")
            for line in (("do", "put", ("x", value), None), ("do", "look", (value,), None), ("give", value), ("if", value, 1)):
                (self.yes if name else self.no)(line)
            (self.yes if name or value is None else self.no)(("do", "new", (), value))
            number = type(value) is int and 0 <= value <= 1
            (self.yes if number and value else self.no)(("if", "ok", value))
            (self.yes if number and value else self.no)(("go", value))
        for value in VALUES:
            if value not in (MARK, ()) and value != ("mark",):
                self.no(value)
                self.no(DO, value)

    def test_words_that_are_none_of_a_program(self):
        for line in (("send", "new", (), None), ("read",), ("copy", "x", "y"), ("copy", "x", None), ("give",), ("if", "ok"), ("go",),
                     ("mark", None), ("last", None), ("go", 1, None), ("go", 1, None, None), ("give", "a", None, None), ("give", None), ("do", "new", ()), ["mark"], "mark", ("do", "new", [], None),
                     ("do", "new", (None,), None), ("do", "look", (None,), None), ("do", "look", (0,), None), (), ("DO", "new", (), None)):
            self.no(line)
            self.no(DO, line, MARK)

    def test_jumps(self):
        for word in (("if", "ok"), ("go",)):
            self.yes(DO, word + (2,))
            self.no(DO, word + (3,))
            self.no(DO, word + (1,))
            self.no(DO, word + (-1,))
            self.no(DO, word + (True,), MARK)
            self.no(DO, word + (10 ** 59,))
            self.yes(DO, MARK, word + (0,))
            self.no(DO, MARK, word + (1,))
            self.no(DO, MARK, word + (2,))

    def test_registers_and_parameters(self):
        three = (("do", "put", ("x", "y"), "z"),)
        self.yes(*three)
        self.no(*three, ("do", "new", (), "w"))
        self.no(*three, ("do", "look", ("w",), None))
        self.no(*three, parameters=("w",))
        self.yes(*three, parameters=("x",))
        self.yes(*three, parameters=("x", "z"))
        self.yes(DO, parameters=("a", "b"))
        self.yes(("do", "new", (), "x"), parameters=("a", "b"))
        self.no(("do", "put", ("x", "y"), None), parameters=("a", "b"))

    def test_parameters_that_are_none(self):
        for value in VALUES + (("b", "a"), ("a", "a"), ("a", "b", "c"), ["a"], "a", ("A",), ("a", None), {"a": 1}, ("a", 1)):
            if value not in ((), ("a",), ("mark",), ("kept",), ("a", "b"), ("ok",)):
                self.refused(InvalidProgram, Program, BOOK, DO, parameters=value)
                self.refused(InvalidProgram, Program.of, BOOK, (DO,), parameters=value)
                self.refused(InvalidProgram, is_program, BOOK, (DO,), parameters=value)
                self.refused(InvalidProgram, is_program, BOOK, 5, parameters=value)

    def test_lines_that_are_no_tuple(self):
        for value in VALUES + ([DO], {0: DO}, DO, MARK):
            if value not in (ORDER.lines, (MARK,)):
                self.refused(InvalidProgram, Program.of, BOOK, value)
                self.assertIs(is_program(BOOK, value), False)

    def test_a_first_value_that_is_no_book(self):
        for value in VALUES:
            if not isinstance(value, Book):
                self.refused(InvalidBook, Program, value, DO)
                self.refused(InvalidBook, Program, value, 5, parameters=5)
                self.refused(InvalidBook, Program.of, value, 5)
                self.refused(InvalidBook, is_program, value, 5, parameters=5)

    def test_it_depends_on_the_book(self):
        self.assertIs(is_program(OTHER_BOOK, (DO,)), True)
        self.assertIs(is_program(OTHER_BOOK, (("do", "put", ("x", "y"), None),)), False)


class RoundsTest(Case):
    def check(self, expected, *lines):
        self.assertIs(is_program(BOOK, lines), expected, lines)

    def test_cycles(self):
        self.check(True, DO, MARK, ("go", 0))
        self.check(False, DO, ("go", 0))
        self.check(False, MARK, ("go", 0))
        self.check(False, ("go", 0))
        self.check(False, ("if", "ok", 0))
        self.check(True, MARK, DO, ("go", 0))
        self.check(True, DO, MARK, DO, MARK, ("if", "ok", 0))
        self.check(False, DO, MARK, ("if", "ok", 1))
        self.check(False, DO, MARK, DO, ("if", "ok", 2), MARK, ("go", 0))

    def test_cycles_that_are_not_reached(self):
        self.check(False, ("last",), DO, ("go", 1))
        self.check(False, ("last",), MARK, ("go", 1))
        self.check(False, ("last",), ("go", 1))
        self.check(False, ("go", 2), ("go", 1), DO)
        self.check(True, ("last",), DO, MARK, ("go", 1))

    def test_all_ways_on_count(self):
        self.check(False, DO, ("if", "ok", 3), MARK, ("go", 0))
        self.check(False, MARK, ("if", "ok", 3), DO, ("go", 0))
        self.check(True, DO, ("if", "ok", 4), MARK, ("go", 0))
        # A way that no run can take.
        self.check(False, ("if", "ok", 3), DO, MARK, ("if", "never", 0))
        self.check(False, DO, MARK, ("go", 0), ("go", 5), DO, ("if", "never", 3))

    def test_cycles_of_random_lines(self):
        seen = {True: 0, False: 0}
        for seed in range(400):
            dice = seeded(seed)
            many = dice.randrange(1, 7)
            lines = tuple(dice.choice((DO, MARK, ("go", dice.randrange(many + 1)), ("if", "ok", dice.randrange(many + 1)), ("last",)))
                          for _ in range(many))
            expected = not any(self.has_cycle_without(lines, word) for word in ("do", "mark"))
            self.check(expected, *lines)
            seen[expected] += 1
        self.assertGreater(min(seen.values()), 50)

    def has_cycle_without(self, lines, word):
        """Whether some line comes back to itself past lines without the word."""
        for start, line in enumerate(lines):
            todo, found = [start], set()
            while todo:
                at = todo.pop()
                if at == len(lines) or lines[at][0] == word or lines[at] == ("last",):
                    continue
                ways = [lines[at][-1]] if lines[at][0] == "go" else [at + 1]
                ways += [lines[at][-1]] if lines[at][0] == "if" else []
                if start in ways:
                    return True
                todo += [way for way in ways if way not in found]
                found |= set(ways)
        return False


class PropertiesTest(Case):
    def test_what_was_passed(self):
        self.assertEqual(ORDER.book, BOOK)
        self.same((ORDER.parameters, CAREFUL.parameters), (("who",), ()))
        self.same(ORDER.lines[0], ("do", "new", (), "x"))

    def test_registers_and_commands(self):
        self.same((CAREFUL.registers, CAREFUL.commands), (("x",), ("look", "new")))
        self.same((ORDER.registers, ORDER.commands), (("who", "x"), ("look", "new", "put")))
        self.same((LOOP.registers, LOOP.commands), ((), ("new",)))
        made = Program(BOOK, ("do", "look", ("c",), "a"), ("last",), ("do", "new", (), "b"), parameters=("a", "b"))
        self.same((made.registers, made.commands), (("a", "b", "c"), ("look", "new")))
        self.same(Program(BOOK, ("last",), parameters=("a", "b")).registers, ("a", "b"))
        self.same(Program(BOOK, ("last",)).commands, ())

    def test_following(self):
        made = Program(BOOK, DO, MARK, ("if", "ok", 0), ("if", "ok", 4), ("if", "ok", 7), ("go", 5 + 1), ("last",))
        self.same([made.following(at) for at in range(7)], [(1,), (2,), (0, 3), (4,), (5, 7), (6,), ()])
        self.same(Program(BOOK, ("give", "a")).following(0), ())
        self.same(Program(BOOK, DO).following(0), (1,))
        for value in numbers(7):
            self.keeps(InvalidNumber, "value", value, made.following, value)
        self.keeps(InvalidNumber, "value", 7, made.following, 7)

    def test_lines_iteration_and_membership(self):
        self.same(tuple(ORDER), ORDER.lines)
        self.same((len(ORDER), len(CAREFUL)), (9, 6))
        for at in range(9):
            self.same(ORDER[at], ORDER.lines[at])
            self.assertIs(ORDER.lines[at] in ORDER, True)
        for value in numbers(9) + [9]:
            self.keeps(InvalidNumber, "value", value, ORDER.__getitem__, value)
        for value in VALUES:
            self.assertIs(value in ORDER, value == MARK)
        made = Program(BOOK, ("go", 1), ("do", "new", (), None))
        self.assertIs(("go", 1) in made, True)
        self.assertIs(("go", True) in made, False)
        self.assertIs(("go", 0) in made, False)

    def test_equality(self):
        same = Program(Book(put=BOOK["put"], new=BOOK["new"], look=BOOK["look"]), *ORDER.lines, parameters=("who",))
        self.assertIs(ORDER == same, True)
        self.assertIs(ORDER != same, False)
        wider = Program(BOOK | Book(zz=(0, ("ok",))), *ORDER.lines, parameters=("who",))
        for other in (CAREFUL, wider, Program(BOOK, *ORDER.lines), Program(BOOK, *ORDER.lines, parameters=("who", "x")),
                      ORDER.replaced(8, ("last",))):
            self.assertIs(ORDER == other, False)
            self.assertIs(ORDER != other, True)
        for value in VALUES:
            self.assertIs(CAREFUL == value, False)
            self.assertIs(value == CAREFUL, False)

    def test_text(self):
        self.same((str(ORDER), str(LOOP)), ("program of 9 lines, 2 registers", "program of 3 lines, 0 registers"))


class ChangingTest(Case):
    def test_replaced(self):
        made = ORDER.replaced(8, ("last",))
        self.same(made.lines, ORDER.lines[:8] + (("last",),))
        self.same((made.parameters, made.registers), (("who",), ("who", "x")))
        self.same(ORDER.lines[8], ("give", "more"))
        self.same(ORDER.replaced(0, ("go", 9))[0], ("go", 9))
        for value in numbers(9) + [9]:
            self.keeps(InvalidNumber, "value", value, ORDER.replaced, value, 5)
        for value in VALUES + (("go", 10), ("do", "new", (), 5)):
            if value != MARK:
                self.refused(InvalidProgram, ORDER.replaced, 0, value)
        self.refused(InvalidProgram, LOOP.replaced, 0, MARK)
        self.refused(InvalidProgram, LOOP.replaced, 1, DO)
        self.refused(InvalidProgram, ORDER.replaced, 6, ("do", "put", ("a", "b"), None))

    def test_renamed(self):
        made = ORDER.renamed({"x": "y"})
        self.same(made[0], ("do", "new", (), "y"))
        self.same(made[1], ("do", "put", ("y", "who"), None))
        self.same((made.registers, made.parameters), (("who", "y"), ("who",)))
        self.same(ORDER.registers, ("who", "x"))
        self.assertEqual(ORDER.renamed({}), ORDER)
        self.assertEqual(ORDER.renamed({"x": "x"}), ORDER)
        two = Program(BOOK, ("do", "put", ("a", "b"), "a"), ("do", "look", ("b",), "b"), ("give", "a"))
        self.same(two.renamed({"a": "b", "b": "a"}).lines,
                  (("do", "put", ("b", "a"), "b"), ("do", "look", ("a",), "a"), ("give", "a")))
        self.same(two.renamed({"b": "kept"})[1], ("do", "look", ("kept",), "kept"))

    def test_renamed_with_what_is_no_such_dict(self):
        two = Program(BOOK, ("do", "put", ("a", "b"), "c"), parameters=("c",))
        for names in ({"a": "b"}, {"a": "x", "b": "x"}, {"a": "c"}, {"c": "x"}, {"c": "c"}, {"x": "y"}, {"a": "A"}, {"a": None},
                      {"a": ("b",)}, {"a": 1}, {1: "x"}, {None: "x"}, {("a",): "x"}, {True: "x"}, {"": "x"}, {"a": "abcdefghi"}):
            self.refused(InvalidOperation, two.renamed, names)
        self.same(two.renamed({"a": "b", "b": "a"}).registers, ("a", "b", "c"))
        for value in VALUES + ((("a", "x"),), ["a"], "a"):
            if value not in ({}, {"a": "x"}):
                self.refused(InvalidOperation, two.renamed, value)

    def test_sums(self):
        one = Program(BOOK, DO, ("if", "ok", 3), MARK)
        other = Program(BOOK, MARK, DO, ("if", "ok", 4), ("go", 0))
        made = one + other
        self.same(made.lines, one.lines + (MARK, DO, ("if", "ok", 7), ("go", 3)))
        self.same((len(one), len(other)), (3, 4))
        self.assertEqual(one + one + one, Program(BOOK, *one.lines, DO, ("if", "ok", 6), MARK, DO, ("if", "ok", 9), MARK))
        same = one
        same += other
        self.assertEqual((same, one.lines), (made, (DO, ("if", "ok", 3), MARK)))
        self.same((ORDER + ORDER).parameters, ("who",))

    def test_sums_that_are_none(self):
        for value in VALUES + (Program(OTHER_BOOK, DO), Program(BOOK, DO), Program(BOOK, DO, parameters=("x",))):
            if value != ORDER:
                self.refused(InvalidOperation, ORDER.__add__, value)
        twelve = Program(BOOK, *[DO] * 12)
        self.same(len(twelve + twelve), 24)
        self.refused(InvalidProgram, twelve.__add__, twelve + Program(BOOK, DO))
        two = Program(BOOK, ("do", "put", ("a", "b"), None))
        self.refused(InvalidProgram, two.__add__, two.renamed({"a": "c", "b": "d"}))
        self.same((two + two.renamed({"a": "c"})).registers, ("a", "b", "c"))

    def test_random_programs(self):
        for seed in range(60):
            made = random_program(seeded(seed))
            lines = made.lines
            self.assertEqual(Program.of(made.book, lines, parameters=made.parameters), made)
            for at, line in enumerate(lines):
                self.assertEqual(made.replaced(at, line), made)
            free = [name for name in made.registers if name not in made.parameters]
            self.assertEqual(made.renamed({name: "a" + name for name in free}).renamed({"a" + name: name for name in free}), made)
            self.same(made.lines, lines)


if __name__ == "__main__":
    unittest.main()
