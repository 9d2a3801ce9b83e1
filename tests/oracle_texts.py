"""Texts read anew by patterns: the number in the ParseError, or None for a right text."""

import re

from skipahead.base.items import is_items
from skipahead.plain.programs import is_program
from skipahead.send.senders import is_sender

NAME = "[a-z]{1,8}"
NUMBER = "(?:0|[1-9][0-9]{0,59})"
RESERVED = ("failed", "kept", "skipped", "undone")


def code_patterns(book, word):
    """Patterns of the lines of a program, or of a sender."""
    found = ["mark", "last", f"give {NAME}", f"go {NUMBER}", f"if {NAME} {NUMBER}"]
    for command in book:
        found.append(f"{word} {command}" + f" {NAME}" * book.takes(command) + f"(?: -> {NAME})?")
    if word == "send":
        found += ["read", f"copy {NAME}", f"copy {NAME} {NAME}"]
    return found


def ascending(words):
    return all(one < other for one, other in zip(words, words[1:]))


def is_parameters(line):
    match = re.fullmatch(f"parameters ({NAME})(?: ({NAME}))?", line)
    return match is not None and ascending(line.split(" ")[1:])


def code_value(lines):
    """The lines of a program or a sender as tuples."""
    found = []
    for line in lines:
        words = line.split(" ")
        if words[0] in ("do", "send"):
            target = words[-1] if "->" in words else None
            found.append((words[0], words[1], tuple(words[2:-2] if "->" in words else words[2:]), target))
        elif words[0] in ("if", "go"):
            found.append(tuple(words[:-1]) + (int(words[-1]),))
        elif words[0] == "copy":
            found.append(("copy", words[1], words[2] if len(words) > 2 else None))
        else:
            found.append(tuple(words))
    return tuple(found)


def code_fault(book, text, word):
    lines = text.split("\n")
    patterns = code_patterns(book, word)
    for number, line in enumerate(lines):
        if not is_parameters(line) and not any(re.fullmatch(pattern, line) for pattern in patterns):
            return number
    heads = [number for number, line in enumerate(lines) if is_parameters(line)]
    if heads not in ([], [0]):
        return len(lines)
    parameters = tuple(lines[0].split(" ")[1:]) if heads else ()
    fits = is_program if word == "do" else is_sender
    return None if fits(book, code_value(lines[len(heads):]), parameters=parameters) else len(lines)


def book_fault(text):
    lines = text.split("\n")
    last = ""
    for number, line in enumerate(lines):
        words = line.split(" ")
        if not re.fullmatch(f"command {NAME} [012]( {NAME}){{1,3}}", line):
            return number
        if not ascending(words[3:]) or set(words[3:] + [words[1]]) & set(RESERVED) or words[1] <= last:
            return number
        last = words[1]
    return len(lines) if len(lines) > 6 else None


def items_fault(book, text):
    items = ()
    for number, line in enumerate(text.split("\n") if text else []):
        words = line.split(" ")
        if line == "mark":
            items += (("mark",),)
            continue
        if words[:1] != ["send"] or len(words) < 2 or words[1] not in book.commands or len(words) != 2 + book.takes(words[1]):
            return number
        if not all(re.fullmatch(f"(?:{NAME}|{NUMBER}|-)", word) for word in words[2:]):
            return number
        told = tuple(None if word == "-" else int(word) if word.isdigit() else word for word in words[2:])
        if not is_items(book, items + (("send", words[1], told),)):
            return number
        items += (("send", words[1], told),)
    return None


def row_fault(book, text):
    known = {outcome for command in book for outcome in book.outcomes(command)}
    lines = text.split("\n") if text else []
    for number, line in enumerate(lines):
        if not all(word in known for word in line.split(" ")):
            return number
    return len(lines) if len(lines) > 1 else None


def facts_fault(book, text):
    last = ""
    for number, line in enumerate(text.split("\n") if text else []):
        command, *left = line.split(" ")
        if command not in book.commands or command <= last or not ascending(left) or not set(left) < set(book.outcomes(command)):
            return number
        if not set(left) - {"failed"}:
            return number
        last = command
    return None
