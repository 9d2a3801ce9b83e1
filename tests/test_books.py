"""Books [0.8]."""

import itertools
import unittest

from skipahead.base import books
from skipahead.base.books import Book
from skipahead.base.names import RESERVED
from skipahead.errors import InvalidBook, InvalidOperation, UnknownName
from tests.values import PLAIN, Case

LOOK = (1, ("full", "room"))
NEW = (0, ("ok",))
PUT = (2, ("ok",))
SIX = {name: NEW for name in ("a", "b", "c", "d", "e", "f")}


def example():
    return Book(look=LOOK, new=NEW, put=PUT)


class MakingTest(Case):
    def test_the_constants(self):
        self.same((books.MAX_COMMANDS, books.MAX_TAKES, books.MAX_ANSWERS), (6, 2, 3))

    def test_one_to_six_commands(self):
        for many in range(1, 7):
            commands = dict(list(SIX.items())[:many])
            for book in (Book(**commands), Book.of(commands)):
                self.same(book.commands, tuple(commands))
                self.assertEqual(len(book), many)

    def test_no_command_and_seven_commands(self):
        self.refused(InvalidBook, Book)
        self.refused(InvalidBook, Book.of, {})
        for more in ({"g": NEW}, {"g": NEW, "h": NEW}):
            self.refused(InvalidBook, Book, **SIX, **more)
            self.refused(InvalidBook, Book.of, {**SIX, **more})

    def refuse_pair(self, pair):
        self.refused(InvalidBook, Book, a=pair)
        self.refused(InvalidBook, Book.of, {"a": pair})
        self.refused(InvalidBook, Book.of, {"b": NEW, "a": pair})
        self.refused(InvalidBook, Book.of, {"a": pair, "b": NEW})

    def test_each_number_of_arguments(self):
        for takes in range(3):
            self.same(Book(a=(takes, ("ok",)))["a"], (takes, ("ok",)))
        for takes in (-1, 3, 4, -2, 10 ** 59, True, False, None, "1", (1,), [1], {}):
            self.refuse_pair((takes, ("ok",)))

    def test_each_number_of_answers(self):
        for answers in (("x",), ("x", "y"), ("x", "y", "z")):
            self.same(Book(a=(0, answers)).answers("a"), answers)
        for answers in ((), ("w", "x", "y", "z")):
            self.refuse_pair((0, answers))

    def test_answers_are_ascending_without_repetitions(self):
        names = ("ab", "b", "bb")
        for many in (1, 2, 3):
            for answers in itertools.product(names, repeat=many):
                if list(answers) == sorted(set(answers)):
                    self.same(Book(a=(1, answers)).answers("a"), answers)
                else:
                    self.refuse_pair((1, answers))

    def test_answers_are_not_reserved(self):
        for name in RESERVED:
            self.refuse_pair((0, (name,)))
            self.refuse_pair((0, tuple(sorted((name, "ok")))))
            self.refuse_pair((0, tuple(sorted((name, "a", "z")))))

    def test_answers_are_a_tuple_of_names(self):
        for answers in ("ok", ["ok"], {"ok": 1}, None, 1, True, ("",), ("Ok",), ("abcdefghi",), (1,), (True,), (None,),
                        (("ok",),), (["ok"],), ({},), ("a", 1), (1, "a"), ("a", None)):
            self.refuse_pair((0, answers))

    def test_a_pair_is_a_tuple_of_two(self):
        for pair in ([0, ("ok",)], (0,), (("ok",),), (0, ("ok",), 0), (("ok",), 0), {0: ("ok",)}, (0, "ok"), "ok"):
            self.refuse_pair(pair)
        for pair in PLAIN:
            if pair != NEW or isinstance(pair[0], bool):
                self.refuse_pair(pair)

    def test_names_of_commands(self):
        for name in RESERVED:
            self.refused(InvalidBook, Book, **{name: NEW})
            self.refused(InvalidBook, Book.of, {name: NEW, "a": NEW})
        for name in ("", "A", "abcdefghi", "a_b", "a1", "a\n"):
            self.refused(InvalidBook, Book, **{name: NEW})
            self.refused(InvalidBook, Book.of, {"a": NEW, name: NEW})
        for name in ("a", "abcdefgh", "if", "self", "of", "book", "commands", "cls"):
            self.same(Book.of({name: NEW}).commands, (name,))

    def test_keys_that_are_no_strings(self):
        for key in (1, 0, True, False, None, -3, (), ("a",), (1, (2,))):
            self.refused(InvalidBook, Book.of, {key: NEW})
            self.refused(InvalidBook, Book.of, {"a": NEW, key: NEW})
            self.refused(InvalidBook, Book.of, {key: NEW, "a": NEW})

    def test_values_that_are_no_dicts(self):
        values = [value for value in PLAIN if value != {"a": NEW}]
        for value in values + [example(), (("a", NEW),), [("a", NEW)], iter(example())]:
            self.refused(InvalidBook, Book.of, value)

    def test_a_command_called_self(self):
        book = Book.of({"self": PUT, "a": NEW})
        self.same(book.commands, ("a", "self"))
        self.same((book.takes("self"), book.answers("self"), book["self"]), (2, ("ok",), PUT))
        self.assertEqual((book | Book(b=NEW)).commands, ("a", "b", "self"))
        self.assertEqual(book.without("a"), Book.of({"self": PUT}))
        self.assertEqual(book.without("self"), Book(a=NEW))
        self.assertIn("self", book)

    def test_keywords_in_any_order(self):
        pairs = {"look": LOOK, "new": NEW, "put": PUT}
        for order in itertools.permutations(pairs):
            book = Book(**{name: pairs[name] for name in order})
            self.assertEqual(book, example())
            self.same(book.commands, ("look", "new", "put"))
            self.same(list(book), ["look", "new", "put"])
            self.same(Book.of({name: pairs[name] for name in order}).commands, ("look", "new", "put"))


class ReadingTest(Case):
    def test_the_properties_and_methods(self):
        book = example()
        self.same(book.commands, ("look", "new", "put"))
        self.same([book.takes(name) for name in book.commands], [1, 0, 2])
        self.same([book.answers(name) for name in book.commands], [("full", "room"), ("ok",), ("ok",)])
        outcomes = [("failed", "full", "room"), ("failed", "ok"), ("failed", "ok")]
        self.same([book.outcomes(name) for name in book.commands], outcomes)

    def test_outcomes_are_ascending(self):
        book = Book(a=(0, ("a", "z")), b=(0, ("a", "b", "c")), c=(0, ("ok",)), d=(0, ("faile", "failedd", "g")))
        self.same(book.outcomes("a"), ("a", "failed", "z"))
        self.same(book.outcomes("b"), ("a", "b", "c", "failed"))
        self.same(book.outcomes("c"), ("failed", "ok"))
        self.same(book.outcomes("d"), ("faile", "failed", "failedd", "g"))

    def test_items(self):
        book = example()
        self.same([book["look"], book["new"], book["put"]], [LOOK, NEW, PUT])

    def test_commands_that_the_book_does_not_have(self):
        book = example()
        calls = (book.takes, book.answers, book.outcomes, book.without, book.__getitem__)
        for value in PLAIN + ("loo", "looks", "full", "room", ("look",), ["look"], 0, 1, -1):
            for call in calls:
                self.keeps(UnknownName, "name", value, call, value)
        for call in calls:
            self.assertIs(self.refused(UnknownName, call, book).name, book)
        self.assertEqual(book, example())

    def test_in_accepts_every_value(self):
        book = example()
        for value in ("look", "new", "put"):
            self.assertIs(value in book, True)
            self.assertIs(value not in book, False)
        for value in PLAIN + ("full", "ok", "loo", LOOK, ("look",), ["look"], {"look": LOOK}, book, iter(book)):
            self.assertIs(value in book, False)
            self.assertIs(value not in book, True)

    def test_iteration_and_length(self):
        book = Book(z=NEW, a=PUT, m=LOOK)
        self.same(list(book), ["a", "m", "z"])
        self.same([name for name in book], list(book))
        self.same(len(book), 3)
        self.same(len(Book(a=NEW)), 1)

    def test_text(self):
        self.same(str(example()), "book of 3 commands")
        self.same(str(Book(a=NEW)), "book of 1 commands")
        self.same(str(Book(**SIX)), "book of 6 commands")


class ComparingTest(Case):
    def check(self, one, other, equal):
        self.assertIs(one == other, equal)
        self.assertIs(one != other, not equal)

    def test_equal_books(self):
        self.check(example(), example(), True)
        self.check(example(), Book.of({"put": PUT, "new": NEW, "look": LOOK}), True)

    def test_one_thing_changed(self):
        base = {"look": LOOK, "new": NEW}
        others = (
            {"look": LOOK}, {"new": NEW}, {**base, "put": PUT}, {**base, "new": (1, ("ok",))}, {**base, "new": LOOK},
            {**base, "look": (1, ("full",))}, {**base, "look": (1, ("fuller", "room"))}, {"look": LOOK, "knew": NEW},
        )
        for other in others:
            self.check(Book.of(base), Book.of(other), False)
            self.check(Book.of(other), Book.of(base), False)

    def test_every_value(self):
        for value in PLAIN + ({"look": LOOK, "new": NEW, "put": PUT}, ("look", "new", "put"), "book of 3 commands"):
            self.check(example(), value, False)
            self.check(value, example(), False)

    def test_is_within(self):
        book = example()
        self.assertIs(book.is_within(book), True)
        self.assertIs(Book(look=LOOK, put=PUT).is_within(book), True)
        self.assertIs(book.is_within(Book(look=LOOK, put=PUT)), False)
        self.assertIs(Book(look=LOOK, put=NEW).is_within(book), False)
        self.assertIs(Book(look=LOOK, push=PUT).is_within(book), False)
        self.assertIs(Book(other=LOOK).is_within(book), False)
        self.assertIs(book.is_within(book | Book(more=NEW)), True)

    def test_is_within_refuses_what_is_no_book(self):
        for value in PLAIN + ({"look": LOOK, "new": NEW, "put": PUT},):
            self.refused(InvalidBook, example().is_within, value)


class JoiningTest(Case):
    def test_joining(self):
        both = Book(put=PUT, look=LOOK) | Book(new=NEW, look=LOOK)
        self.assertEqual(both, example())
        self.same(both.commands, ("look", "new", "put"))
        self.same(list(both), ["look", "new", "put"])
        self.assertEqual(example() | example(), example())
        self.assertEqual((Book(b=NEW) | Book(a=PUT)).commands, ("a", "b"))

    def test_joining_up_to_six_commands(self):
        three = {"a": NEW, "b": NEW, "c": NEW}
        rest = {"d": NEW, "e": NEW, "f": NEW}
        self.assertEqual(Book.of(three) | Book.of(rest), Book.of(SIX))
        self.assertEqual(Book.of(SIX) | Book.of(three), Book.of(SIX))
        self.refused(InvalidOperation, lambda: Book.of(SIX) | Book(g=NEW))
        self.refused(InvalidOperation, lambda: Book.of(three) | Book.of({**rest, "g": NEW}))

    def test_different_pairs(self):
        for pair in ((1, ("full",)), (0, ("full", "room")), NEW, (1, ("full", "rooms"))):
            self.refused(InvalidOperation, lambda: example() | Book(look=pair))
            self.refused(InvalidOperation, lambda: Book(look=pair) | example())
        self.refused(InvalidOperation, lambda: Book(a=NEW, b=NEW) | Book(b=NEW, a=PUT))

    def test_other_values(self):
        for value in PLAIN + ({"a": NEW}, {}):
            self.refused(InvalidOperation, lambda: example() | value)

    def test_nothing_is_changed(self):
        one, other = Book(look=LOOK), Book(new=NEW)
        joined = one | other
        self.assertEqual((one, other), (Book(look=LOOK), Book(new=NEW)))
        self.refused(InvalidOperation, lambda: one | Book(look=NEW))
        self.assertEqual((one, joined), (Book(look=LOOK), Book(look=LOOK, new=NEW)))
        kept = one
        one |= other
        self.assertEqual((one, kept), (joined, Book(look=LOOK)))

    def test_without(self):
        book = example()
        self.assertEqual(book.without("new"), Book(look=LOOK, put=PUT))
        self.same(book.without("look").commands, ("new", "put"))
        self.assertEqual(book.without("new").without("put"), Book(look=LOOK))
        self.assertEqual(book, example())

    def test_without_the_only_command(self):
        book = Book(look=LOOK)
        self.refused(InvalidOperation, book.without, "look")
        self.assertEqual(book, Book(look=LOOK))

    def test_an_unknown_name_comes_ahead_of_the_only_command(self):
        self.keeps(UnknownName, "name", "new", Book(look=LOOK).without, "new")


class StateTest(Case):
    def test_a_change_of_the_dict_behind_the_call(self):
        commands = {"look": LOOK, "new": NEW, "put": PUT}
        book = Book.of(commands)
        self.same(list(commands), ["look", "new", "put"])
        commands["more"] = NEW
        commands["new"] = PUT
        del commands["look"]
        self.assertEqual(book, example())
        commands.clear()
        self.assertEqual(book, example())
        self.same(book.commands, ("look", "new", "put"))

    def test_the_dict_is_not_changed(self):
        commands = {"put": PUT, "look": LOOK}
        Book.of(commands)
        self.same(list(commands.items()), [("put", PUT), ("look", LOOK)])

    def test_nothing_that_is_returned_can_be_changed(self):
        book = example()
        self.assertIs(type(book.commands), tuple)
        for name in book.commands:
            for value in (book.answers(name), book.outcomes(name), book[name], book[name][1]):
                self.assertIs(type(value), tuple)
            self.assertIs(type(book.takes(name)), int)

    def test_the_commands_are_a_property_that_is_not_assigned(self):
        book = example()
        self.assertRaises(AttributeError, setattr, book, "commands", ("a",))
        self.assertEqual(book, example())

    def test_iterations_are_independent(self):
        book = example()
        pairs = [(one, other) for one in book for other in book]
        self.assertEqual(len(pairs), 9)


if __name__ == "__main__":
    unittest.main()
