"""The files of the package, and where the interface is defined."""

import ast
import importlib
import pathlib
import unittest

PACKAGE = pathlib.Path(__file__).resolve().parent.parent / "skipahead"

FUNCTIONS = {
    "skipahead.base.names": ("is_name", "is_answer"),
    "skipahead.base.items": ("is_item", "is_items", "is_row"),
    "skipahead.line.line": ("is_work", "sent"),
    "skipahead.plain.programs": ("is_program",),
    "skipahead.plain.runs": ("row_of", "behind", "is_row_of"),
    "skipahead.plain.alike": ("are_alike", "alike_paper", "is_alike_paper", "first_pair", "pairs_behind"),
    "skipahead.ahead.lists": (
        "first_stand", "is_stand", "thing_at", "fates", "stand_behind", "is_right", "next_item", "forced_list",
    ),
    "skipahead.ahead.waits": ("wait_paper", "is_wait_paper", "do_agree", "needs_wait"),
    "skipahead.ahead.windows": ("reached_stands", "full_row", "least_window"),
    "skipahead.ahead.saving": ("do_save", "least_savings", "with_outs"),
    "skipahead.ahead.lost": ("losses", "in_doubt"),
    "skipahead.send.making": ("made_sender", "making_cost", "slower_row"),
    "skipahead.text.formats": (
        "write_book", "write_program", "write_sender", "write_items", "write_row", "write_facts",
        "read_book", "read_program", "read_sender", "read_items", "read_row", "read_facts",
    ),
    "skipahead.text.columns": ("columns", "run_columns"),
    "skipahead.send.senders": ("sender_behind", "is_sender"),
    "skipahead.send.judge": ("does_same", "same_paper", "is_same_paper"),
}
CLASSES = {
    ("skipahead.base.books", "Book"): (
        "__init__", "of", "commands", "takes", "answers", "outcomes", "without", "is_within", "__or__", "__getitem__",
        "__contains__", "__iter__", "__len__", "__eq__", "__str__",
    ),
    ("skipahead.line.line", "Line"): (
        "__init__", "is_tried", "send", "__iadd__", "book", "sequence", "replies", "work", "tried", "kept", "deal",
        "origin", "undo", "trial", "during", "twin", "__getitem__", "__len__", "__eq__", "__str__",
    ),
    ("skipahead.line.servers", "Server"): (
        "__init__", "steady", "book", "states", "start", "table", "__call__", "outcome", "with_state", "__eq__",
        "__len__", "__str__",
    ),
    ("skipahead.line.facts", "Facts"): (
        "__init__", "of", "outcomes", "without", "__and__", "__or__", "is_within", "allows", "obeyed_by", "__eq__",
        "__bool__", "__str__",
    ),
    ("skipahead.plain.programs", "Program"): (
        "__init__", "of", "book", "lines", "parameters", "registers", "commands", "following", "replaced", "renamed", "__add__",
        "__getitem__", "__iter__", "__len__", "__contains__", "__eq__", "__str__",
    ),
    ("skipahead.plain.runs", "PlainRun"): (
        "__init__", "go", "program", "server", "line", "work", "at", "last", "state", "result", "waits", "held", "undo", "trial",
        "during", "twin", "__len__", "__eq__", "__str__",
    ),
    ("skipahead.ahead.forward", "Forward"): (
        "__init__", "go", "program", "server", "window", "facts", "line", "work", "stand", "pending", "paper", "state", "result", "waits",
        "progress", "undo", "trial", "during", "twin", "__len__", "__eq__", "__str__",
    ),
    ("skipahead.send.senders", "Sender"): (
        "__init__", "of", "plain", "book", "lines", "parameters", "registers", "commands", "following", "replaced", "renamed",
        "__getitem__", "__iter__", "__len__", "__contains__", "__eq__", "__str__",
    ),
    ("skipahead.send.senders", "SenderRun"): (
        "__init__", "go", "sender", "server", "window", "line", "work", "at", "last", "unread", "state", "result", "reason", "waits",
        "progress", "held", "undo", "trial", "during", "twin", "__len__", "__eq__", "__str__",
    ),
    ("skipahead.ahead.lost", "Careful"): ("__init__", "doubts", "twin", "__eq__", "__str__"),
    ("skipahead.desk.journal", "Client"): (
        "__init__", "outbox", "tell", "__iadd__", "program", "window", "facts", "stand", "state", "result", "log", "sequence", "widen",
        "lost", "undo", "redo", "__len__", "__getitem__", "__iter__", "__eq__", "__str__",
    ),
    ("skipahead.desk.desk", "Desk"): ("__init__", "__call__", "window", "facts", "names", "__getitem__", "__contains__", "__len__"),
    ("skipahead.send.judge", "Guard"): ("check",),
    ("skipahead.send.judge", "GuardedRun"): ("__init__", "paper", "twin"),
}


def sources():
    """The text of each file of the package."""
    return {path: path.read_text(encoding="utf-8") for path in sorted(PACKAGE.rglob("*.py"))}


class FilesTest(unittest.TestCase):
    def test_the_folder_contains_nothing_else(self):
        for path in PACKAGE.rglob("*"):
            if "__pycache__" not in path.parts:
                self.assertTrue(path.is_dir() or path.suffix == ".py", path)

    def test_each_folder_has_its_own_file(self):
        for path in [PACKAGE] + [path for path in PACKAGE.rglob("*") if path.is_dir()]:
            self.assertTrue(path.name == "__pycache__" or (path / "__init__.py").is_file(), path)

    def test_sizes_and_signs(self):
        self.assertLessEqual(len(sources()), 100)
        for path, text in sources().items():
            self.assertLessEqual(text.count("\n"), 399, path)
            self.assertTrue(all(sign == "\n" or " " <= sign <= "~" for sign in text), path)
            for line in text.split("\n"):
                self.assertLessEqual(len(line), 120, (path, line))

    def test_functions_have_at_most_40_lines(self):
        for path, text in sources().items():
            for node in ast.walk(ast.parse(text)):
                if isinstance(node, ast.FunctionDef):
                    self.assertLessEqual(node.end_lineno - node.lineno + 1, 40, (path, node.name))

    def test_imports_are_of_the_package_or_of_the_few_words_of_the_library(self):
        library = ("heapq", "math", "itertools", "collections", "__future__")
        for path, text in sources().items():
            for node in ast.walk(ast.parse(text)):
                if isinstance(node, ast.ImportFrom) and path.name != "__main__.py":
                    self.assertEqual(node.level, 0, path)
                    self.assertIn(node.module.split(".")[0], ("skipahead",) + library, path)
                elif path.name != "__main__.py":
                    self.assertNotIsInstance(node, ast.Import, path)


class InterfaceTest(unittest.TestCase):
    def test_functions_are_defined_in_the_files_that_list_them(self):
        for module, names in FUNCTIONS.items():
            for name in names:
                self.assertEqual(getattr(importlib.import_module(module), name).__module__, module)

    def test_methods_are_defined_in_the_classes_that_list_them(self):
        for (module, name), methods in CLASSES.items():
            kind = getattr(importlib.import_module(module), name)
            self.assertEqual(kind.__module__, module)
            for method in methods:
                self.assertIn(method, vars(kind), name)


if __name__ == "__main__":
    unittest.main()
