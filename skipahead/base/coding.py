"""What programs and senders have in common: lines with registers and jumps."""

from skipahead.base.counts import is_count
from skipahead.base.items import MARK
from skipahead.base.names import is_name
from skipahead.errors import InvalidNumber, InvalidOperation

CALLS = ("do", "send")
ENDS = ("give", "last")
JUMPS = ("if", "go")


def is_common_line(value, many):
    """Whether the value is a mark, an end, or a jump to one of so many lines or behind them."""
    if not isinstance(value, tuple) or not 1 <= len(value) <= 3:
        return False
    if len(value) == 1:
        return value == MARK or value == ("last",)
    if len(value) == 3:
        return value[0] == "if" and is_name(value[1]) and is_target(value[2], many)
    if value[0] == "go":
        return is_target(value[1], many)
    return value[0] == "give" and is_name(value[1])


def is_target(value, many):
    """Whether the value is the number of one of so many lines, or of the end behind them."""
    return is_count(value) and value <= many


def is_call(book, value, word):
    """Whether the value is a line that begins with this word and sends a command of the book."""
    if not isinstance(value, tuple) or len(value) != 4 or value[0] != word or value[1] not in book:
        return False
    names = value[2]
    if not isinstance(names, tuple) or len(names) != book.takes(value[1]):
        return False
    return all([is_name(name) for name in names]) and is_name_or_none(value[3])


def is_name_or_none(value):
    """Whether the value is a name, or None."""
    return value is None or is_name(value)


def registers_in(lines, parameters):
    """The ascending tuple of the registers of lines, with the parameters."""
    found = {name: True for line in lines for name in registers_of(line) if name is not None}
    return tuple(sorted({**found, **{name: True for name in parameters}}))


def registers_of(line):
    """The registers that a line names, with None where it could name one and does not."""
    if line[0] in CALLS:
        return line[2] + (line[3],)
    return line[1:] if line[0] == "copy" else ()


def commands_in(lines):
    """The ascending tuple of the commands in lines."""
    return tuple(sorted({line[1]: True for line in lines if line[0] in CALLS}))


def ways_on(lines, at):
    """The ascending tuple of the numbers of the lines with which a run can go on behind line at."""
    line = lines[at]
    if line[0] in ENDS:
        return ()
    if line[0] == "go":
        return (line[1],)
    if line[0] == "if" and line[2] != at + 1:
        return (min(at + 1, line[2]), max(at + 1, line[2]))
    return (at + 1,)


def lines_on_to(lines, words):
    """For each word, of each line whether all ways on from it come to a line that begins with it, or to an end."""
    if not any([line[0] in JUMPS and line[-1] <= at for at, line in enumerate(lines)]):
        # Without a jump back all ways come to an end.
        return [[True for _ in lines] for _ in words]
    ways = [ways_on(lines, at) for at in range(len(lines))]
    return [lines_by_ways([line[0] == word for line in lines], ways) for word in words]


def lines_by_ways(wanted, ways):
    """Of each line whether all of these ways on from it come to a wanted one, or to an end."""
    safe = [*wanted, True]
    changed = True
    while changed:
        changed = False
        for at in reversed(range(len(ways))):
            if not safe[at] and all([safe[way] for way in ways[at]]):
                safe[at] = changed = True
    return safe[:-1]


def jumped(lines, at, last):
    """The number of the first line from line at on that is no jump, with this last answer, or that of the end."""
    while at < len(lines):
        line = lines[at]
        if line[0] == "go":
            at = line[1]
        elif line[0] == "if":
            at = line[2] if line[1] == last else at + 1
        else:
            break
    return at


def result_at(lines, at, last):
    """The result of a run that ends at line at, or behind the last line."""
    if at == len(lines):
        return None
    return last if lines[at][0] == "last" else lines[at][1]


def with_line(lines, at, line):
    """The lines, with another line as number at."""
    return lines[:at] + (line,) + lines[at + 1:]


def has_line(lines, value):
    """Whether the value is one of the lines, where True is not 1."""
    return any([line == value and repr(line) == repr(value) for line in lines])


def need_line(lines, at):
    """Refuses what is not the number of a line."""
    if not is_count(at) or at >= len(lines):
        raise InvalidNumber(at)


def new_names(registers, parameters, renaming):
    """The new name of each register, where the renaming tells those that do not keep theirs."""
    if not isinstance(renaming, dict):
        raise InvalidOperation("not a dict from registers to names")
    for name in renaming:
        if not is_name(name) or name not in registers or name in parameters:
            raise InvalidOperation(f"not a register that can have another name: {name!r}")
        if not is_name(renaming[name]):
            raise InvalidOperation(f"not a name: {renaming[name]!r}")
    names = {name: renaming.get(name, name) for name in registers}
    if len({names[name]: True for name in names}) < len(names):
        raise InvalidOperation("two registers would have one name")
    return names


def renamed_lines(lines, names):
    """The lines with the new names of the registers."""
    return tuple([renamed_line(line, names) for line in lines])


def renamed_line(line, names):
    """The line with the new names of the registers; None stays None."""
    if line[0] in CALLS:
        return line[:2] + (tuple([names[name] for name in line[2]]), names.get(line[3]))
    if line[0] == "copy":
        return ("copy", names[line[1]], names.get(line[2]))
    return line


def shifted_line(line, places):
    """The line whose jump, if it is one, goes to the new place that is told for the number in it."""
    if line[0] in JUMPS:
        return line[:-1] + (places[line[-1]],)
    return line
