"""Facts [0.18]."""

import itertools
import unittest

from skipahead.base.books import Book
from skipahead.errors import InvalidBook, InvalidFacts, InvalidOperation, InvalidServer, UnknownName
from skipahead.line.facts import Facts
from skipahead.line.line import Line, sent
from skipahead.line.servers import Server
from tests.examples import BOOK, ITEMS, NEW, TABLE, VALUES
from tests.values import Case

KEPT = ("kept",)
TINY = Book(a=(0, ("ok",)))
SERVER = Server(BOOK, TABLE, start="a")
OTHERS = (Facts(TINY), Facts(BOOK.without("put")), Facts(BOOK | Book(more=(0, ("ok",)))), Facts(BOOK.without("new"), look=("full",)))


def selections(book, command):
    """All ascending tuples of outcomes of a command, at least one answer among them."""
    outcomes = book.outcomes(command)
    found = [chosen for many in range(1, 4) for chosen in itertools.combinations(outcomes, many)]
    return [chosen for chosen in found if chosen != ("failed",)]


def all_facts():
    """All facts of the book of the document, as dicts from all commands to what is left."""
    ways = itertools.product(*[selections(BOOK, command) for command in BOOK])
    return [dict(zip(BOOK.commands, way)) for way in ways]


def left(facts):
    """What facts of the book of the document leave."""
    return {command: facts.outcomes(command) for command in BOOK}


class MakingTest(Case):
    def test_the_examples_of_the_document(self):
        sure = Facts(BOOK, new=("ok",))
        self.same([sure.outcomes("put"), bool(sure & Facts(BOOK))], [("failed", "ok"), True])
        self.same([sure.is_within(Facts(BOOK)), sure.obeyed_by(SERVER), str(sure)], [True, True, "new: ok"])

    def test_each_selection(self):
        self.assertEqual(len(all_facts()), 24)
        for outcomes in all_facts():
            for facts in (Facts(BOOK, **outcomes), Facts.of(BOOK, outcomes)):
                self.assertIs(type(facts), Facts)
                self.same(left(facts), outcomes)

    def test_other_commands_have_all_of_their_outcomes(self):
        self.same(left(Facts(BOOK)), {command: BOOK.outcomes(command) for command in BOOK})
        self.same(left(Facts.of(BOOK, {})), {command: BOOK.outcomes(command) for command in BOOK})
        self.same(left(Facts(BOOK, put=("ok",))), {"look": ("failed", "full", "room"), "new": ("failed", "ok"), "put": ("ok",)})

    def test_keywords_in_any_order(self):
        self.assertEqual(Facts(BOOK, put=("ok",), look=("full",)), Facts(BOOK, look=("full",), put=("ok",)))
        self.same(str(Facts(BOOK, put=("ok",), look=("full",))), "look: full; put: ok")

    def test_commands_called_book_and_self(self):
        book = Book.of({"book": (0, ("ok",)), "self": (1, ("a", "b")), "z": (0, ("ok",))})
        facts = Facts.of(book, {"self": ("a",), "book": ("ok",)})
        self.same([facts.outcomes(command) for command in book], [("ok",), ("a",), ("failed", "ok")])
        self.same(str(facts), "book: ok; self: a")
        self.assertEqual(Facts.of(book, {"book": ("ok",)}) & Facts.of(book, {"self": ("a",)}), facts)
        self.assertEqual(Facts(book).without("self", "b").without("self", "failed").without("book", "failed"), facts)

    def refuse(self, outcomes):
        self.refused(InvalidFacts, Facts.of, BOOK, outcomes)
        if isinstance(outcomes, dict) and all([isinstance(key, str) for key in outcomes]):
            self.refused(InvalidFacts, Facts, BOOK, **outcomes)

    def test_keywords_that_are_no_commands(self):
        for key in ("loo", "looks", "ok", "kept", "failed", "LOOK", "", 1, None, True, ("look",), (1, (2,))):
            self.refuse({key: ("ok",)})
            self.refuse({"new": ("ok",), key: ("ok",)})

    def test_each_value_changed(self):
        for command in BOOK:
            right = selections(BOOK, command)
            outcomes = BOOK.outcomes(command)
            wrong = [way for many in range(5) for way in itertools.product(outcomes, repeat=many) if way not in right]
            for value in wrong + [("failed",), ("ok", "room"), ("full", "ok"), ("failed", "skipped"), ("kept", "ok"), ("okk",)]:
                self.refuse({command: value})
            for value in VALUES + ("ok", ["ok"], ["failed", "ok"], {"ok": 1}, ("ok", None), ("ok", 1), (["ok"],), (("ok",),)):
                self.refuse({command: value})
                self.refuse({command: value, "new" if command != "new" else "put": ("ok",)})

    def test_values_that_are_no_dicts(self):
        for value in VALUES + ((("new", ("ok",)),), [("new", ("ok",))], "new", ("new",)):
            if value != {}:
                self.refused(InvalidFacts, Facts.of, BOOK, value)

    def test_the_first_error(self):
        for value in VALUES:
            if not isinstance(value, Book):
                self.refused(InvalidBook, Facts, value)
                self.refused(InvalidBook, Facts, value, new=5)
                self.refused(InvalidBook, Facts.of, value, {"new": ("ok",)})
                self.refused(InvalidBook, Facts.of, value, 5)


class ReadingTest(Case):
    def test_commands_that_the_book_does_not_have(self):
        facts = Facts(BOOK, new=("ok",))
        for value in VALUES + ("loo", "ok", "more", ("look",), ["look"]):
            self.assertIs(self.refused(UnknownName, facts.outcomes, value).name, value)
            self.assertIs(self.refused(UnknownName, facts.without, value, "ok").name, value)
            self.assertIs(self.refused(UnknownName, facts.without, value, 5).name, value)

    def test_truth(self):
        full = {command: BOOK.outcomes(command) for command in BOOK}
        for outcomes in all_facts():
            self.assertIs(bool(Facts(BOOK, **outcomes)), outcomes != full)
        self.assertIs(bool(Facts(BOOK)), False)

    def test_text(self):
        self.same(str(Facts(BOOK)), "no facts")
        self.same(str(Facts(BOOK, look=("failed", "room"), new=("ok",))), "look: failed, room; new: ok")
        self.same(str(Facts(BOOK, look=("failed", "full", "room"), put=("ok",))), "put: ok")
        self.same(str(Facts(BOOK, look=("full", "room"))), "look: full, room")
        self.same(str(Facts(BOOK, put=("ok",), new=("ok",), look=("room",))), "look: room; new: ok; put: ok")

    def test_facts_are_not_iterated_over(self):
        self.assertRaises(TypeError, iter, Facts(BOOK, new=("ok",)))


class CombiningTest(Case):
    def test_without(self):
        for outcomes in all_facts():
            facts = Facts(BOOK, **outcomes)
            for command in BOOK:
                for outcome in BOOK.outcomes(command):
                    fewer = tuple(name for name in outcomes[command] if name != outcome)
                    if outcome in outcomes[command] and fewer not in ((), ("failed",)):
                        self.same(left(facts.without(command, outcome)), {**outcomes, command: fewer})
                    else:
                        self.refused(InvalidOperation, facts.without, command, outcome)
            self.same(left(facts), outcomes)

    def test_without_what_is_no_outcome(self):
        facts = Facts(BOOK)
        for value in VALUES + ("full", "o", "skipped", "new", ("ok",), ["ok"], {"ok": 1}):
            if value not in ("ok", "failed"):
                self.refused(InvalidOperation, facts.without, "new", value)
        self.assertEqual(facts, Facts(BOOK))

    def test_both_and_one_of_two(self):
        for one, other in itertools.product(all_facts(), repeat=2):
            first, second = Facts(BOOK, **one), Facts(BOOK, **other)
            shared = {name: tuple(sorted(set(one[name]) & set(other[name]))) for name in BOOK}
            if all(set(shared[name]) - {"failed"} for name in BOOK):
                self.same(left(first & second), shared)
            else:
                self.refused(InvalidOperation, lambda: first & second)
            self.same(left(first | second), {name: tuple(sorted(set(one[name]) | set(other[name]))) for name in BOOK})
            within = all(set(one[name]) <= set(other[name]) for name in BOOK)
            self.assertIs(first.is_within(second), within)
            self.assertIs(first == second, one == other)
            self.assertIs(first != second, one != other)
            self.same((left(first), left(second)), (one, other))

    def test_other_values(self):
        facts = Facts(BOOK, new=("ok",))
        for value in VALUES + OTHERS + ({"new": ("ok",)},):
            if isinstance(value, Facts) and value in (Facts(BOOK), facts):
                continue
            self.refused(InvalidOperation, lambda: facts & value)
            self.refused(InvalidOperation, lambda: facts | value)
            self.refused(InvalidOperation, facts.is_within, value)
            self.assertIs(facts == value, False)
            self.assertIs(facts != value, True)
        self.assertEqual(facts, Facts(BOOK, new=("ok",)))

    def test_facts_of_an_equal_book(self):
        book = Book(put=BOOK["put"], new=BOOK["new"], look=BOOK["look"])
        facts = Facts(book, new=("ok",))
        self.assertEqual(facts, Facts(BOOK, new=("ok",)))
        self.assertEqual(facts & Facts(BOOK, put=("ok",)), Facts(BOOK, new=("ok",), put=("ok",)))
        self.assertEqual(facts | Facts(BOOK, put=("ok",)), Facts(BOOK))
        self.assertIs(facts.is_within(Facts(BOOK)), True)
        self.assertIs(facts.obeyed_by(SERVER), True)

    def test_facts_of_different_books_are_not_equal(self):
        self.assertIs(Facts(BOOK) == Facts(TINY), False)
        self.assertIs(Facts(Book(a=(1, ("ok",)))) == Facts(TINY), False)
        self.assertIs(Facts(Book(a=(1, ("ok",)))) != Facts(TINY), True)


class AllowsTest(Case):
    def test_works(self):
        work = (("new", (), "ok"), ("look", (0,), "full"), KEPT, ("put", (0, None), "failed"), ("look", (None,), "room"), KEPT)
        for outcomes in all_facts():
            facts = Facts(BOOK, **outcomes)
            for many in range(len(work) + 1):
                entries = [entry for entry in work[:many] if entry != KEPT]
                allowed = all(outcome in outcomes[command] for command, _, outcome in entries)
                self.assertIs(facts.allows(work[:many]), allowed)
        self.assertIs(Facts(BOOK, new=("ok",)).allows((("new", (), "failed"), ("new", (), "ok"))), False)
        self.assertIs(Facts(BOOK, new=("ok",)).allows((("put", (None, None), "failed"),)), True)

    def test_values_that_are_no_works(self):
        facts = Facts(BOOK, new=("ok",))
        for value in VALUES + ((KEPT,), (NEW,), [("new", (), "ok")], (("new", (), "failed"), KEPT), (("look", (0,), "room"),), KEPT):
            if value not in ((), sent(BOOK, ITEMS, ("ok", "ok", "room")).work):
                self.refused(InvalidOperation, facts.allows, value)


class ObeyedByTest(Case):
    def test_steady_servers(self):
        for outcomes in all_facts():
            facts = Facts(BOOK, **outcomes)
            for way in itertools.product(*[BOOK.outcomes(command) for command in BOOK]):
                server = Server.steady(BOOK, dict(zip(BOOK.commands, way)))
                obeys = all(outcome in outcomes[command] for command, outcome in zip(BOOK.commands, way))
                self.assertIs(facts.obeyed_by(server), obeys)

    def test_every_state_counts_also_one_that_is_not_reached(self):
        table = {**TABLE, "c": {"look": ("room", "a"), "new": ("failed", "a"), "put": ("ok", "a"), "kept": "a"}}
        for start in table:
            server = Server(BOOK, table, start=start)
            self.assertIs(Facts(BOOK, new=("ok",)).obeyed_by(server), False)
            self.assertIs(Facts(BOOK, look=("full", "room")).obeyed_by(server), True)
            self.assertIs(Facts(BOOK, look=("failed", "room")).obeyed_by(server), False)
            self.assertIs(Facts(BOOK, put=("ok",)).obeyed_by(server), False)
            self.assertIs(Facts(BOOK).obeyed_by(server), True)

    def test_other_values(self):
        facts = Facts(BOOK)
        small = Server.steady(TINY, {"a": "ok"})
        more = Server.steady(BOOK | TINY, {"look": "room", "new": "ok", "put": "ok", "a": "ok"})
        for value in VALUES + (small, more, (), ("ok",), TABLE):
            if not isinstance(value, Server) or value in (small, more):
                self.refused(InvalidServer, facts.obeyed_by, value)
        self.refused(InvalidServer, Facts(TINY).obeyed_by, SERVER)


class StateTest(Case):
    def test_a_change_of_the_dict_behind_the_call(self):
        outcomes = {"put": ("ok",), "look": ("room",)}
        facts = Facts.of(BOOK, outcomes)
        self.same(list(outcomes.items()), [("put", ("ok",)), ("look", ("room",))])
        outcomes["new"] = ("ok",)
        outcomes["look"] = ("full",)
        del outcomes["put"]
        self.assertEqual(facts, Facts(BOOK, put=("ok",), look=("room",)))
        self.same(str(facts), "look: room; put: ok")

    def test_what_is_returned_gives_no_access(self):
        facts = Facts(BOOK, new=("ok",))
        for command in BOOK:
            self.assertIs(type(facts.outcomes(command)), tuple)

    def test_operators_make_new_facts(self):
        facts = same = Facts(BOOK, new=("ok",))
        facts &= Facts(BOOK, put=("ok",))
        self.assertEqual((facts, same), (Facts(BOOK, new=("ok",), put=("ok",)), Facts(BOOK, new=("ok",))))
        facts |= Facts(BOOK)
        self.assertEqual((facts, same), (Facts(BOOK), Facts(BOOK, new=("ok",))))

    def test_every_value_beside_equality(self):
        facts = Facts(BOOK, new=("ok",))
        for value in VALUES + (Line(BOOK), "new: ok", {"new": ("ok",)}):
            if not isinstance(value, Facts):
                self.assertIs(facts == value, False)
                self.assertIs(value == facts, False)
                self.assertIs(facts != value, True)


if __name__ == "__main__":
    unittest.main()
