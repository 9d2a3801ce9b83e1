"""Servers that are tables [0.13]."""

import copy
import itertools
import unittest

from skipahead.base.books import Book
from skipahead.errors import InvalidBook, InvalidOperation, InvalidServer, UnknownName
from skipahead.line import servers
from skipahead.line.line import Line
from skipahead.line.servers import Server
from tests.examples import BOOK, MARK, NEW, TABLE, VALUES
from tests.values import PLAIN, Case

KEPT = ("kept",)
TINY = Book(a=(0, ("ok",)))
# In each state another outcome or another state, also behind a kept deal.
WAYS = {
    "p": {"a": ("ok", "q"), "b": ("no", "p"), "kept": "r"},
    "q": {"a": ("failed", "r"), "b": ("yes", "q"), "kept": "p"},
    "r": {"a": ("ok", "p"), "b": ("failed", "q"), "kept": "r"},
}
WAYS_BOOK = Book(a=(1, ("ok",)), b=(0, ("no", "yes")))


def tiny(many):
    """A table of the tiny book with so many states."""
    return {"abcdefghijklmn"[at]: {"a": ("ok", "a"), "kept": "a"} for at in range(many)}


def example():
    return Server(BOOK, TABLE, start="a")


class MakingTest(Case):
    def test_the_examples_of_the_document(self):
        server = example()
        self.same((server((("put", (None, None), "failed"),)), server.outcome((), "look"), len(server)), ("b", "room", 2))

    def test_the_properties(self):
        server = Server(BOOK, {"b": TABLE["b"], "a": TABLE["a"]}, start="b")
        self.assertEqual(server.book, BOOK)
        self.same((server.states, server.start), (("a", "b"), "b"))
        self.same((len(server), str(server)), (2, "server with 2 states"))
        self.same(str(Server(TINY, tiny(1), start="a")), "server with 1 states")

    def test_the_table_has_ascending_keys(self):
        table = {state: {key: TABLE[state][key] for key in ("put", "kept", "new", "look")} for state in ("b", "a")}
        server = Server(BOOK, table, start="a")
        self.assertEqual(server.table, TABLE)
        self.same(list(server.table), ["a", "b"])
        for state in ("a", "b"):
            self.same(list(server.table[state].items()), sorted(TABLE[state].items()))
        self.same(list(server.with_state("aa", table["b"]).table), ["a", "aa", "b"])
        self.same(list(server.with_state("aa", table["b"]).table["aa"]), ["kept", "look", "new", "put"])
        steady = Server.steady(BOOK, {"put": "ok", "new": "ok", "look": "room"})
        self.same(list(steady.table["s"]), ["kept", "look", "new", "put"])

    def test_one_to_twelve_states(self):
        self.same(servers.MAX_STATES, 12)
        for many in range(1, 13):
            server = Server(TINY, tiny(many), start="a")
            self.same((len(server), server.states), (many, tuple(tiny(many))))
        for many in (0, 13, 14):
            self.refused(InvalidServer, Server, TINY, tiny(many), start="a")

    def test_names_of_states(self):
        for name in ("a", "abcdefgh", "kept", "failed", "look", "self"):
            table = {name: {"a": ("ok", name), "kept": name}}
            self.same(Server(TINY, table, start=name).states, (name,))
        for name in ("", "A", "abcdefghi", "a b", 1, 0, True, None, (), ("a",)):
            self.refused(InvalidServer, Server, TINY, {name: {"a": ("ok", name), "kept": name}}, start=name)
            self.refused(InvalidServer, Server, TINY, {**tiny(1), name: tiny(1)["a"]}, start="a")

    def refuse(self, table):
        self.refused(InvalidServer, Server, BOOK, table, start="a")

    def changed(self, state, key, value):
        table = copy.deepcopy(TABLE)
        table[state][key] = value
        return table

    def test_each_key_left_out(self):
        for state in TABLE:
            for key in TABLE[state]:
                table = copy.deepcopy(TABLE)
                del table[state][key]
                self.refuse(table)
                table[state]["more"] = ("ok", "a")
                self.refuse(table)

    def test_each_key_put_in(self):
        for state in TABLE:
            for key in ("more", "ok", "a", "failed", "", 1, None, True, ("look",)):
                self.refuse(self.changed(state, key, ("ok", "a")))
                self.refuse(self.changed(state, key, "a"))

    def test_each_pair_changed(self):
        for state, command in itertools.product(TABLE, BOOK):
            outcome = BOOK.outcomes(command)[0]
            for value in VALUES + ((outcome,), (outcome, "a", "a"), [outcome, "a"], ("a", outcome), "a", {outcome: "a"}, outcome):
                self.refuse(self.changed(state, command, value))

    def test_each_outcome_changed(self):
        for state, command in itertools.product(TABLE, BOOK):
            for value in VALUES + ("full", "room", "skipped", "undone", "o", ["ok"], ("ok",)):
                table = self.changed(state, command, (value, "a"))
                if value in BOOK.outcomes(command):
                    self.same(Server(BOOK, table, start=state).outcome((), command), value)
                else:
                    self.refuse(table)

    def test_each_state_changed(self):
        for state in TABLE:
            for value in VALUES + ("c", "A", "ab", ("a",), ["a"]):
                for key in BOOK:
                    if value not in ("a", "b"):
                        self.refuse(self.changed(state, key, (TABLE[state][key][0], value)))
                if value not in ("a", "b"):
                    self.refuse(self.changed(state, "kept", value))
            self.refuse(self.changed(state, "kept", ("ok", "a")))

    def test_each_dict_of_a_state_changed(self):
        for value in VALUES + (list(TABLE["a"].items()), tuple(TABLE["a"]), {}, "a"):
            self.refuse({**TABLE, "b": value})
            self.refuse({**TABLE, "a": value})
            self.refuse({**TABLE, "c": value})

    def test_values_that_are_no_tables(self):
        for value in VALUES:
            if value != TABLE:
                self.refuse(value)
        for value in (list(TABLE.items()), tuple(TABLE.items()), {}, TABLE["a"], example()):
            self.refuse(value)

    def test_the_table_of_another_book(self):
        self.refused(InvalidServer, Server, TINY, TABLE, start="a")
        self.refused(InvalidServer, Server, BOOK, tiny(1), start="a")
        self.refused(InvalidServer, Server, BOOK.without("new"), TABLE, start="a")

    def test_the_start(self):
        self.same(Server(BOOK, TABLE, start="b").start, "b")
        for value in VALUES + ("c", "A", "ab", "look", ["a"], ("a",)):
            if value not in ("a", "b"):
                self.assertIs(self.refused(UnknownName, Server, BOOK, TABLE, start=value).name, value)

    def test_the_first_error(self):
        for value in VALUES:
            if not isinstance(value, Book):
                self.refused(InvalidBook, Server, value, TABLE, start="a")
                self.refused(InvalidBook, Server, value, 5, start="c")
                self.refused(InvalidBook, Server.steady, value, {"a": "ok"})
                self.refused(InvalidBook, Server.steady, value, 5)
        self.refused(InvalidServer, Server, BOOK, {}, start="c")
        self.refused(InvalidServer, Server, BOOK, tiny(1), start=5)


class SteadyTest(Case):
    def test_a_steady_server(self):
        for look, new, put in itertools.product(BOOK.outcomes("look"), BOOK.outcomes("new"), BOOK.outcomes("put")):
            outcomes = {"put": put, "look": look, "new": new}
            server = Server.steady(BOOK, outcomes)
            self.assertIs(type(server), Server)
            self.same((server.states, server.start, len(server)), (("s",), "s", 1))
            table = {"s": {"kept": "s", "look": (look, "s"), "new": (new, "s"), "put": (put, "s")}}
            self.same(server.table, table)
            self.assertEqual(server, Server(BOOK, table, start="s"))
            self.same([server.outcome((), name) for name in ("look", "new", "put")], [look, new, put])
            self.same(list(outcomes), ["put", "look", "new"])

    def test_dicts_that_are_not_of_all_commands_to_outcomes(self):
        right = {"look": "room", "new": "ok", "put": "failed"}
        Server.steady(BOOK, right)
        for name in right:
            self.refused(InvalidServer, Server.steady, BOOK, {key: right[key] for key in right if key != name})
            less = {key: right[key] for key in right if key != name}
            self.refused(InvalidServer, Server.steady, BOOK, {**less, "more": "ok"})
            for value in VALUES + ("o", "skipped", ("ok",), ["ok"], ("ok", "s")):
                if value not in BOOK.outcomes(name):
                    self.refused(InvalidServer, Server.steady, BOOK, {**right, name: value})
        for key in ("more", "kept", "s", 1, None, True, ("new",)):
            self.refused(InvalidServer, Server.steady, BOOK, {**right, key: "ok"})
            self.refused(InvalidServer, Server.steady, BOOK, {**right, key: "s"})

    def test_values_that_are_no_dicts(self):
        for value in VALUES + (("room", "ok", "ok"), ["room", "ok", "ok"], (("look", "room"), ("new", "ok"), ("put", "ok"))):
            self.refused(InvalidServer, Server.steady, BOOK, value)


class WorkTest(Case):
    def works(self, many):
        """All works of lines with up to so many items at a server, with the state behind each."""
        server = Server(WAYS_BOOK, WAYS, start="p")
        found = [(Line(WAYS_BOOK), "p")]
        for line, state in found:
            if len(line) == many:
                continue
            for item in (("send", "a", (None,)), ("send", "b", ()), MARK):
                twin = line.twin()
                if twin.is_tried(item):
                    outcome, behind = WAYS[state][item[1]]
                    twin.send(item, outcome=outcome)
                else:
                    behind = WAYS[state]["kept"] if item == MARK and twin.deal == "open" else state
                    twin.send(item)
                found.append((twin, behind))
        return server, found

    def test_the_state_behind_each_work_and_the_outcome_then(self):
        server, found = self.works(6)
        self.assertEqual({state for _, state in found}, {"p", "q", "r"})
        for line, state in found:
            self.same(server(line.work), state)
            for command in ("a", "b"):
                self.same(server.outcome(line.work, command), WAYS[state][command][0])

    def test_behind_a_broken_deal_the_state_stays(self):
        server = Server(WAYS_BOOK, WAYS, start="q")
        self.same(server((("a", (None,), "failed"),)), "r")
        self.same(server((("a", (None,), "failed"), ("a", (None,), "ok"))), "p")
        self.same(server((("b", (), "yes"), KEPT)), "p")
        self.same(server((("b", (), "yes"), KEPT, ("b", (), "no"), KEPT)), "r")

    def refuse(self, server, work):
        self.refused(InvalidOperation, server, work)
        for command in list(BOOK) + ["more", None, [1]]:
            self.refused(InvalidOperation, server.outcome, work, command)

    def test_works_that_the_server_does_not_do(self):
        server = example()
        self.same(server((("look", (None,), "room"),)), "a")
        for outcome in ("failed", "full"):
            self.refuse(server, (("look", (None,), outcome),))
        self.refuse(server, (("put", (None, None), "ok"),))
        self.refuse(server, (("put", (None, None), "failed"), ("put", (None, None), "failed")))
        self.refuse(server, (("put", (None, None), "failed"), ("look", (None,), "room")))
        self.same(server((("put", (None, None), "failed"), ("look", (None,), "full"), KEPT)), "b")

    def test_values_that_are_no_works(self):
        server = example()
        for value in VALUES + ((KEPT,), (("new", (), "ok"), KEPT, KEPT), [("new", (), "ok")], (("new", (0,), "ok"),),
                               (("look", (0,), "room"),), (("put", (None, None), "failed"), KEPT), (NEW,)):
            if not isinstance(value, tuple) or value not in ((), (("new", (), "ok"),)):
                self.refuse(server, value)

    def test_commands_that_the_book_does_not_have(self):
        server = example()
        for value in VALUES + ("kept", "a", "room", ("look",), ["look"]):
            self.assertIs(self.refused(UnknownName, server.outcome, (), value).name, value)

    def test_a_long_work(self):
        server = Server.steady(TINY, {"a": "ok"})
        self.same(server((("a", (), "ok"), KEPT) * 5000), "s")


class ChangingTest(Case):
    def test_with_a_state_more(self):
        server = example()
        entries = {**TABLE["a"], "look": ("failed", "c"), "kept": "c"}
        more = server.with_state("c", entries)
        self.assertEqual(more, Server(BOOK, {**TABLE, "c": entries}, start="a"))
        self.same((more.states, more.start, len(more)), (("a", "b", "c"), "a", 3))
        self.assertEqual(server, example())

    def test_with_another_dict_for_a_state(self):
        server = Server(BOOK, TABLE, start="b")
        entries = {**TABLE["a"], "look": ("failed", "b"), "kept": "b"}
        other = server.with_state("a", entries)
        self.assertEqual(other, Server(BOOK, {**TABLE, "a": entries}, start="b"))
        self.assertEqual(server, Server(BOOK, TABLE, start="b"))

    def test_more_than_twelve_states(self):
        full = Server(TINY, tiny(12), start="a")
        self.refused(InvalidServer, full.with_state, "z", tiny(1)["a"])
        self.assertEqual(len(full), 12)
        self.same(len(full.with_state("l", {"a": ("failed", "b"), "kept": "b"})), 12)
        self.same(len(Server(TINY, tiny(11), start="a").with_state("z", tiny(1)["a"])), 12)

    def test_no_such_server(self):
        server = example()
        for value in VALUES + ("", "A", "abcdefghi", ["c"], ("c",)):
            if not isinstance(value, str) or value not in ("a", "ok", "failed", "kept", "send", "mark", "b"):
                self.refused(InvalidServer, server.with_state, value, TABLE["a"])
            self.refused(InvalidServer, server.with_state, "c", value)
            self.refused(InvalidServer, server.with_state, value, {})
        for key in TABLE["a"]:
            self.refused(InvalidServer, server.with_state, "c", {name: TABLE["a"][name] for name in TABLE["a"] if name != key})
            self.refused(InvalidServer, server.with_state, "a", {**TABLE["a"], key: ("ok", "d")})
        self.refused(InvalidServer, server.with_state, "c", {**TABLE["a"], "kept": "d"})
        self.assertEqual(server, example())


class ComparingTest(Case):
    def check(self, one, other, equal):
        self.assertIs(one == other, equal)
        self.assertIs(one != other, not equal)

    def test_servers(self):
        self.check(example(), example(), True)
        self.check(example(), Server(BOOK, {"b": TABLE["b"], "a": TABLE["a"]}, start="a"), True)
        self.check(example(), Server(BOOK, TABLE, start="b"), False)
        self.check(example(), Server(BOOK, {**TABLE, "b": {**TABLE["b"], "kept": "a"}}, start="a"), False)
        self.check(example(), Server(BOOK, {**TABLE, "b": {**TABLE["b"], "new": ("ok", "a")}}, start="a"), False)
        self.check(example(), Server(BOOK, {**TABLE, "b": {**TABLE["b"], "new": ("failed", "b")}}, start="a"), False)
        self.check(example(), example().with_state("c", TABLE["a"]), False)
        self.check(Server(TINY, tiny(1), start="a"), Server(Book(a=(1, ("ok",))), tiny(1), start="a"), False)

    def test_every_value(self):
        for value in PLAIN + (BOOK, Line(BOOK), TABLE, "server with 2 states"):
            self.check(example(), value, False)
            self.check(value, example(), False)

    def test_a_server_is_not_iterated_over(self):
        self.assertRaises(TypeError, iter, example())
        self.assertRaises(TypeError, list, example())


class StateTest(Case):
    def test_a_change_of_the_table_behind_the_call(self):
        table = copy.deepcopy(TABLE)
        server = Server(BOOK, table, start="a")
        self.assertEqual(table, TABLE)
        self.same(list(table["a"]), ["look", "new", "put", "kept"])
        table["a"]["look"] = ("full", "b")
        table["b"].clear()
        table["c"] = 5
        self.assertEqual(server, example())
        self.assertEqual(server.table, TABLE)
        self.same(server.outcome((), "look"), "room")

    def test_a_change_of_what_was_returned(self):
        server = example()
        table = server.table
        table["a"]["look"] = ("full", "b")
        table["b"].clear()
        del table["a"]["kept"]
        table["c"] = 5
        self.assertEqual(server, example())
        self.assertEqual(server.table, TABLE)
        self.assertEqual(server.with_state("c", TABLE["a"]).table, {**TABLE, "c": TABLE["a"]})
        self.assertIs(type(server.states), tuple)

    def test_a_change_of_other_dicts_behind_the_call(self):
        entries = dict(TABLE["a"])
        server = example().with_state("c", entries)
        entries["look"] = 5
        self.assertEqual(server.table["c"], TABLE["a"])
        outcomes = {"look": "room", "new": "ok", "put": "ok"}
        steady = Server.steady(BOOK, outcomes)
        outcomes["look"] = "full"
        self.same(steady.outcome((), "look"), "room")

    def test_servers_do_not_share_their_tables(self):
        server = example()
        more = server.with_state("c", TABLE["a"])
        more.table["a"]["look"] = ("failed", "c")
        self.assertEqual(server, example())
        self.assertEqual(more.table["a"], TABLE["a"])

    def test_properties_are_not_assigned(self):
        for name in ("book", "states", "start", "table"):
            self.assertRaises(AttributeError, setattr, example(), name, "a")


if __name__ == "__main__":
    unittest.main()
