"""The desk: interface of stage 18."""

import unittest

from skipahead.ahead.forward import Forward
from skipahead.ahead.lists import first_stand, forced_list
from skipahead.ahead.waits import wait_paper
from skipahead.base.books import Book
from skipahead.desk.desk import Desk
from skipahead.errors import InvalidBook, ParseError, UnknownName
from skipahead.line.facts import Facts
from skipahead.plain.alike import alike_paper
from skipahead.plain.programs import Program
from skipahead.send.judge import same_paper
from skipahead.send.making import made_sender
from skipahead.send.senders import Sender, SenderRun
from skipahead.text.columns import run_columns
from skipahead.text.formats import write_facts, write_items, write_program, write_sender
from tests.examples import BOOK, CAREFUL, ITEMS, LOOP, MARK, ORDER, QUICK, SURE, VALUES
from tests.making import deep_program, random_facts, seeded
from tests.test_lists import LONG
from tests.values import Case

OTHER = ORDER.replaced(6, ("do", "new", (), "x"))
PARTED = ORDER.replaced(8, ("last",))
LINES = {"order": write_program(ORDER), "other": write_program(OTHER), "parted": write_program(PARTED), "careful": write_program(CAREFUL)}


def full_desk():
    desk = Desk(BOOK)
    for name, text in LINES.items():
        desk(f"program {name}\n{text}")
    desk("sender quick\n" + write_sender(QUICK))
    return desk


def told(desk):
    """All that a desk tells without arguments, and what it keeps."""
    return (desk.window, str(desk.facts), desk.names, len(desk), desk("names"), [write_code(desk[name]) for name in desk.names])


def write_code(code):
    return write_program(code) if isinstance(code, Program) else write_sender(code)


class CommandsTest(Case):
    def test_the_example_of_the_document(self):
        desk = Desk(BOOK)
        self.same([desk("program careful\n" + write_program(CAREFUL)), desk("list careful"), desk("window 0"), desk("run careful failed"),
                   desk("same careful quick")],
                  ["kept 6", "send new\nmark\nfork", "InvalidNumber",
                   "  0  send new                  failed\n  1  mark                      undone\nended: no, 1 waits, 1 entries", "unknown quick"])

    def test_keeping_and_dropping(self):
        desk = Desk(BOOK)
        self.same((desk("names"), desk.names, len(desk)), ("", (), 0))
        self.same(desk("program order\n" + LINES["order"]), "kept 9")
        self.same(desk("sender quick\n" + write_sender(QUICK)), "kept 13")
        self.same(desk("program careful\n" + LINES["careful"]), "kept 6")
        self.same(desk("names"), "careful program 6\norder program 9\nquick sender 13")
        self.same((desk.names, len(desk), "order" in desk, "nobody" in desk), (("careful", "order", "quick"), 3, True, False))
        self.assertEqual((desk["order"], desk["quick"]), (ORDER, QUICK))
        # In the place of another program, or of a sender.
        self.same((desk("program order\nlast"), desk("sender order\nlast\nmark"), desk("names").split("\n")[1]), ("kept 1", "kept 2", "order sender 2"))
        self.same((desk("drop careful"), desk("drop careful"), desk("drop nobody"), desk.names), ("dropped", "unknown careful", "unknown nobody", ("order", "quick")))

    def test_facts_and_windows(self):
        desk = Desk(BOOK)
        self.same((desk.window, desk.facts == Facts(BOOK), desk.facts is None), (16, True, False))
        self.same((desk("facts\nnew ok"), desk.facts == SURE), ("facts new: ok", True))
        self.same(desk("facts\nlook full room\nnew ok"), "facts look: full, room; new: ok")
        self.same((desk("facts"), desk.facts == Facts(BOOK)), ("facts no facts", True))
        self.same((desk("window 4"), desk.window), ("window 4", 4))
        self.same([desk("window " + word) for word in ("0", "17", "9" * 60, "16", "1")], ["InvalidNumber"] * 3 + ["window 16", "window 1"])
        self.same([desk("window " + word) for word in ("04", "x", "-1", "", "4.0", "9" * 61, "4 4", "\u0664")], ["what"] * 8)
        self.same(desk.window, 1)

    def test_lists(self):
        desk = full_desk()
        self.same(desk("list order"), "send new\nsend put 0 who\nmark\nsend look 0\nfork")
        self.same((desk("window 3"), desk("list order")), ("window 3", "send new\nsend put 0 who\nmark\nfull"))
        desk("window 16")
        desk("facts\nlook full")
        self.same(desk("list order"), "send new\nsend put 0 who\nmark\nsend look 0\nsend new\nmark\nends more")
        desk("facts\nlook failed full\nnew ok")
        self.same(desk("list order").split("\n")[-1], "fork")
        desk("facts\nlook full\nnew ok\nput ok")
        self.same(desk("list order"), "send new\nsend put 0 who\nmark\nsend look 0\nsend new\nmark\nends more")
        desk("program end\ndo new")
        desk("program none\ngo 1")
        desk("program word\ngive none")
        self.same([desk("list " + name) for name in ("end", "none", "word")], ["send new\nends none", "ends none", "ends none"])

    def test_runs(self):
        desk = full_desk()
        self.same(desk("run order ok ok full"), "\n".join(run_columns(self.gone(Forward(ORDER, ("ok", "ok", "full"))))))
        self.same(desk("run order"), "paused, 0 waits, 0 entries")
        self.same(desk("run quick ok ok full"), "\n".join(run_columns(self.gone(SenderRun(QUICK, ("ok", "ok", "full"))))))
        desk("window 3")
        self.same(desk("run quick failed").split("\n")[-1], "stopped, 0 waits, 1 entries")
        self.same([desk("run order " + row) for row in ("room", "no", "kept", "ok ok ok")], ["InvalidRow", "InvalidServer", "InvalidServer", "InvalidRow"])
        self.same([desk("run quick " + row) for row in ("room", "no", "ok room")], ["InvalidRow", "InvalidServer", "InvalidRow"])
        desk("facts\nnew ok")
        self.same((desk("run order failed"), desk("run quick failed").split("\n")[0]), ("InvalidRow", "  0  send new                  failed"))

    def gone(self, run):
        run.go(many=50)
        return run

    def test_at_most_fifty_waits(self):
        desk = Desk(BOOK)
        desk("window 2")
        desk("program loop\n" + write_program(LOOP))
        desk("sender plain\n" + write_sender(Sender.plain(LOOP)))
        row = " ok" * 60
        self.same(desk("run loop" + row).split("\n")[-1], "waiting, 50 waits, 102 entries")
        self.same(desk("run loop" + row[:-30]).split("\n")[-1], "paused, 50 waits, 100 entries")
        self.same(desk("run loop" + row[:-33]).split("\n")[-1], "paused, 49 waits, 98 entries")
        self.same(desk("run plain" + row).split("\n")[-1], "waiting, 50 waits, 51 entries")

    def test_alike(self):
        desk = full_desk()
        self.same(desk("alike order other"), f"alike {len(alike_paper(ORDER, OTHER)[1])}")
        self.same(desk("alike order parted").split(" ")[0], "parted")
        kind, row = alike_paper(ORDER, PARTED)
        self.same(desk("alike order parted"), f"{kind} {' '.join(row)}")
        desk("program one\ngive a")
        desk("program two\ngive b")
        self.same((desk("alike one two"), desk("alike one one")), ("parted", "alike 1"))
        # Other parameters, a sender in the place of a program.
        self.same((desk("alike order careful"), desk("alike order quick"), desk("alike quick order")), ("InvalidProgram",) * 3)
        self.same((desk("alike nobody none"), desk("alike order nobody"), desk("alike quick nobody")), ("unknown nobody",) * 3)

    def test_same(self):
        desk = full_desk()
        self.same((desk("same order quick"), desk("window 3"), desk("same order quick")), ("same", "window 3", "unlike failed"))
        desk("program never\ngive a")
        desk("sender ever\ngive b")
        self.same(desk("same never ever"), "unlike")
        self.same((desk("same quick order"), desk("same quick quick"), desk("same order order"), desk("same order ever")),
                  ("InvalidProgram", "InvalidProgram", "InvalidSender", "InvalidSender"))
        self.same((desk("same order none"), desk("same none quick")), ("unknown none", "unknown none"))
        desk("window 16")
        desk("sender hasty\nsend new -> x\nmark\nsend look x\nread\nread\nread\nlast")
        self.same((desk("same careful hasty"), desk("facts\nnew ok"), desk("same careful hasty")), ("unlike failed", "facts new: ok", "same"))

    def test_made(self):
        desk = full_desk()
        self.same((desk("made order fast"), desk["fast"] == made_sender(ORDER), desk("same order fast")), ("kept", True, "same"))
        desk("window 2")
        self.same((desk("made careful fast"), desk["fast"] == made_sender(CAREFUL, window=2)), ("kept", True))
        self.same((desk("made quick fast"), desk("made nobody fast"), desk("made order order")), ("InvalidProgram", "unknown nobody", "kept"))
        self.assertIs(type(desk["order"]), Sender)
        desk("facts\nnew ok")
        self.same((desk("made careful sure"), desk["sure"] == made_sender(CAREFUL, window=2, facts=SURE)), ("kept", True))

    def test_too_many(self):
        desk = Desk(LONG.book)
        desk("program long\n" + write_program(LONG))
        desk("sender plain\n" + write_sender(Sender.plain(LONG)))
        before = told(desk)
        self.same([desk(text) for text in ("list long", "run long x", "made long fast")], ["TooMany"] * 3)
        self.same(told(desk), before)
        desk("window 6")
        self.same(desk("made long fast"), "TooMany")
        self.same(desk("list long").split("\n")[-1], "full")

    def test_against_the_functions(self):
        for seed in range(80):
            dice = seeded(seed)
            made = deep_program(dice, 10)
            facts = random_facts(dice, made.book) or Facts(made.book)
            window = dice.choice((1, 2, 4))
            desk = Desk(made.book)
            desk("program made\n" + write_program(made))
            desk("sender plain\n" + write_sender(Sender.plain(made)))
            self.same((desk(f"window {window}"), desk("facts\n" + write_facts(facts))), (f"window {window}", f"facts {facts}"))
            items = forced_list(made, first_stand(made), window=window, facts=facts)
            paper = wait_paper(made, first_stand(made), window=window, facts=facts)
            end = paper[0] if paper[0] != "ends" else f"ends {paper[1] or 'none'}"
            self.same(desk("list made"), "\n".join([write_items(items), end]) if items else end)
            kind, row = same_paper(made, Sender.plain(made), window=window, facts=facts)
            self.same(desk("same made plain"), kind if kind == "same" else " ".join([kind, *row]))
            self.same(desk("alike made made"), f"alike {len(alike_paper(made, made)[1])}")


class WhatTest(Case):
    def test_other_texts(self):
        desk = full_desk()
        before = told(desk)
        for text in ("", "order", "program", "program a b\nlast", "sender", "drop", "drop a b", "names x", "facts x", "facts x\nnew ok", "window", "list",
                     "list order other", "run", "alike order", "alike order other more", "same order", "made order", "undo 1", "Program a\nlast",
                     "names ", " names", "list  order", "list order ", "program A\nlast", "program abcdefghi\nlast", "drop 1", "list Order", "run order OK",
                     "run order ok ", "run order 1", "alike order Other", "made order Fast", "made order -", "undo\n", "names\n", "list order\n",
                     "list order\nmark", "window 4\n", "window 4\nnames", "drop order\ndrop other", "run order ok\n", "alike order other\n", "same order quick\n",
                     "made order fast\n", "program a b", "\nnames", "names\tx", "unknown"):
            self.same((text, desk(text)), (text, "what"))
        self.same(told(desk), before)

    def test_what_comes_ahead_of_what(self):
        desk = full_desk()
        # The form, then the names that are kept, then the further lines and the rest.
        self.same([desk(text) for text in ("drop nobody\n", "run nobody OK", "run nobody zzz", "same nobody none", "alike none nobody", "made none Fast")],
                  ["what", "what", "unknown nobody", "unknown nobody", "unknown none", "what"])

    def test_further_lines_that_cannot_be_read(self):
        desk = full_desk()
        before = told(desk)
        for text, answer in (("program a", "line 1"), ("program a\n", "line 1"), ("program a\ndo new\nnone\nmark", "line 2"), ("program a\nlast\n", "line 2"),
                             ("program a\ndo new\ngo 0", "line 3"), ("sender a", "line 1"), ("sender a\nsend new\ndo new", "line 2"), ("sender a\ngo 2", "line 2"),
                             ("facts\nnew", "line 1"), ("facts\nnew ok\nlook full", "line 2"), ("facts\nnew ok\n", "line 2"),
                             ("program a\nlast\nparameters p", "line 3")):
            self.same((text, desk(text)), (text, answer))
        self.same(told(desk), before)
        # No further lines are those of an empty text, which is that of no facts.
        self.same((desk("facts"), desk("facts\n")), ("facts no facts", "facts no facts"))

    def test_names_that_are_words_of_commands(self):
        desk = Desk(BOOK)
        for word in ("program", "sender", "names", "undo", "run", "failed", "ends"):
            self.same((desk(f"program {word}\n{LINES['careful']}"), desk(f"list {word}")), ("kept 6", "send new\nmark\nfork"))
        self.same((desk("made run run"), desk("drop undo"), desk("alike names names")), ("kept", "dropped", f"alike {len(alike_paper(CAREFUL, CAREFUL)[1])}"))

    def test_values_that_are_no_texts(self):
        desk = full_desk()
        before = told(desk)
        for value in VALUES:
            if isinstance(value, str):
                self.same(desk(value), "what")
            else:
                self.keeps(ParseError, "number", 0, desk, value)
            if not isinstance(value, Book):
                self.refused(InvalidBook, Desk, value)
            self.keeps(UnknownName, "name", value, lambda value=value: desk[value])
            self.assertIs(value in desk, False)
        self.same(told(desk), before)
        self.refused(TypeError, iter, desk)


class UndoTest(Case):
    def test_back_to_the_beginning(self):
        desk = Desk(BOOK)
        states = [told(desk)]
        for text in ("program order\n" + LINES["order"], "sender quick\n" + write_sender(QUICK), "window 4", "facts\nnew ok", "made order fast", "drop order",
                     "program quick\nlast", "facts", "window 4", "sender quick\nlast"):
            self.assertNotIn(desk(text), ("what", "nothing"))
            states.append(told(desk))
            # Refused ones and questions are no steps to take back.
            for other in ("window 0", "program a\nnone", "drop nobody", "made nobody a", "made fast a", "facts\nnone", "what", "names", "list order", "run order no",
                          "same order quick", "alike order order"):
                desk(other)
            self.same(told(desk), states[-1])
        for state in reversed(states[:-1]):
            self.same((desk("undo"), told(desk)), ("undone", state))
        self.same((desk("undo"), desk("undo"), told(desk)), ("nothing", "nothing", states[0]))

    def test_what_was_taken_back_is_gone(self):
        desk = Desk(BOOK)
        desk("window 4")
        desk("window 5")
        self.same((desk("undo"), desk.window, desk("window 6"), desk("undo"), desk.window, desk("undo"), desk.window), (
            "undone", 4, "window 6", "undone", 4, "undone", 16))

    def test_desks_are_independent(self):
        one, other = full_desk(), full_desk()
        one("drop order")
        one("window 2")
        self.same((other.window, "order" in other, other("undo"), "quick" in other, len(one)), (16, True, "undone", False, 4))

    def test_items_of_a_text(self):
        # The lines of a list are those of its text.
        desk = full_desk()
        self.same(desk("list order"), write_items(ITEMS) + "\nfork")
        self.same(MARK in ITEMS, True)


if __name__ == "__main__":
    unittest.main()
