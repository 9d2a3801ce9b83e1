"""Texts of books, programs, senders, items, rows and facts."""

from skipahead.base.books import MAX_COMMANDS, MAX_TAKES, Book, is_pair, need_book, outcomes_of
from skipahead.base.coding import is_call, is_common_line
from skipahead.base.items import MARK, is_argument, is_behind, is_item, is_row
from skipahead.base.names import is_answer, is_name, is_names
from skipahead.errors import InvalidFacts, InvalidItem, InvalidRow, ParseError
from skipahead.line.facts import Facts, can_be_left, lacking
from skipahead.plain.programs import MAX_PARAMETERS, Program, is_program, need_program
from skipahead.send.senders import Sender, is_line, is_sender, need_sender
from skipahead.text.words import is_number, item_from, item_text, line_from, line_text, lines_of, row_text

PARAMETERS = "parameters"
# A line of its own can jump to any line; whether this is there is asked of the whole.
ANY_LINE = 10 ** 60


def write_book(book):
    """The text of a book."""
    need_book(book)
    return "\n".join([row_text(["command", name, str(book.takes(name)), *book.answers(name)]) for name in book])


def write_program(program):
    """The text of a program."""
    need_program(program)
    return code_text(program)


def write_sender(sender):
    """The text of a sender."""
    need_sender(sender)
    return code_text(sender)


def code_text(code):
    """The text of a program or a sender."""
    begin = [row_text([PARAMETERS, *code.parameters])] if code.parameters else []
    return "\n".join(begin + [line_text(line) for line in code.lines])


def write_items(items):
    """The text of items of some books."""
    if not isinstance(items, tuple) or not all([is_item_of_some_book(item) for item in items]):
        raise InvalidItem("not a tuple of items")
    return "\n".join([item_text(item) for item in items])


def is_item_of_some_book(value):
    """Whether the value is an item of some book."""
    if not isinstance(value, tuple) or len(value) != 3:
        return value == MARK
    word, command, arguments = value
    if word != "send" or not is_answer(command) or not isinstance(arguments, tuple) or len(arguments) > MAX_TAKES:
        return False
    return all([is_argument(argument) for argument in arguments])


def write_row(row):
    """The text of a row, or of other names."""
    if not isinstance(row, tuple) or not all([is_name(name) for name in row]):
        raise InvalidRow("not a tuple of names")
    return row_text(row)


def write_facts(facts):
    """The text of facts."""
    if not isinstance(facts, Facts):
        raise InvalidFacts("not facts")
    left = lacking(facts)
    return "\n".join([row_text([command, *left[command]]) for command in left])


def read_book(text):
    """The book with this text."""
    lines = lines_of(text)
    commands = {}
    last = ""
    for number, line in enumerate(lines):
        words = line.split(" ")
        if len(words) < 4 or words[0] != "command" or not is_answer(words[1]) or not is_number(words[2]):
            raise ParseError(number)
        pair = (int(words[2]), tuple(words[3:]))
        if not is_pair(pair) or words[1] <= last:
            raise ParseError(number)
        last = words[1]
        commands[last] = pair
    if len(commands) > MAX_COMMANDS:
        raise ParseError(len(lines))
    return Book.of(commands)


def read_program(book, text):
    """The program of a book with this text."""
    need_book(book)
    parameters, code = read_code(book, text, "do")
    if not is_program(book, code, parameters=parameters):
        raise ParseError(len(lines_of(text)))
    return Program.of(book, code, parameters=parameters)


def read_sender(book, text):
    """The sender of a book with this text."""
    need_book(book)
    parameters, code = read_code(book, text, "send")
    if not is_sender(book, code, parameters=parameters):
        raise ParseError(len(lines_of(text)))
    return Sender.of(book, code, parameters=parameters)


def read_code(book, text, word):
    """The parameters and the lines in the text of a program or a sender, whose commands are sent with this word."""
    lines = lines_of(text)
    parameters = ()
    code = []
    late = False
    for number, line in enumerate(lines):
        words = line.split(" ")
        if words[0] == PARAMETERS and are_parameters(tuple(words[1:])):
            late = late or number > 0
            parameters = tuple(words[1:])
        else:
            value = line_from(words)
            if not is_code_line(book, value, word):
                raise ParseError(number)
            code.append(value)
    if late:
        raise ParseError(len(lines))
    return parameters, tuple(code)


def are_parameters(names):
    """Whether these words can stand in the line of the parameters."""
    return is_names(names) and 1 <= len(names) <= MAX_PARAMETERS


def is_code_line(book, value, word):
    """Whether the value is a line of some program or sender of a book."""
    if word == "send":
        return is_line(book, value, ANY_LINE)
    return is_common_line(value, ANY_LINE) or is_call(book, value, word)


def read_items(book, text):
    """The items of a book with this text."""
    need_book(book)
    items = []
    if text == "":
        return ()
    for number, line in enumerate(lines_of(text)):
        item = item_from(line.split(" "))
        if not is_item(book, item) or not is_behind(item, items, number):
            raise ParseError(number)
        items.append(item)
    return tuple(items)


def read_row(book, text):
    """The row of outcomes of a book with this text."""
    need_book(book)
    if text == "":
        return ()
    lines = lines_of(text)
    for number, line in enumerate(lines):
        if not is_row(book, tuple(line.split(" "))):
            raise ParseError(number)
    if len(lines) > 1:
        raise ParseError(len(lines))
    return tuple(text.split(" "))


def read_facts(book, text):
    """The facts of a book with this text."""
    need_book(book)
    choices = outcomes_of(book)
    left = {}
    last = ""
    for number, line in enumerate(lines_of(text) if text != "" else []):
        words = line.split(" ")
        outcomes = tuple(words[1:])
        if words[0] not in choices or words[0] <= last or not can_lack(choices[words[0]], outcomes):
            raise ParseError(number)
        last = words[0]
        left[last] = outcomes
    return Facts.of(book, left)


def can_lack(choices, outcomes):
    """Whether facts can leave a command with these choices just these outcomes, and not all."""
    return outcomes != choices and can_be_left(choices, outcomes)
