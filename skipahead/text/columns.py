"""Columns that show lines and runs."""

from skipahead.ahead.forward import Forward
from skipahead.errors import InvalidOperation
from skipahead.line.line import Line
from skipahead.plain.runs import PlainRun
from skipahead.send.senders import SenderRun
from skipahead.text.words import item_text, result_text


def columns(line):
    """A string for each item of a line, with its index, the item and the answer."""
    if not isinstance(line, Line):
        raise InvalidOperation("not a line")
    return tuple([shown(index, item, answer) for index, (item, answer) in enumerate(zip(line.sequence, line.replies))])


def run_columns(run):
    """The strings for the items on the line of a run, and one that tells how the run stands."""
    if not isinstance(run, (PlainRun, Forward, SenderRun)):
        raise InvalidOperation("not a run")
    return columns(run.line) + (f"{standing(run)}, {run.waits} waits, {len(run.work)} entries",)


def shown(index, item, answer):
    """The string for an item."""
    return f"{index:>3}  {item_text(item):<24}  {answer}"


def standing(run):
    """The state of a run, with the result if it has ended."""
    if run.state != "ended":
        return run.state
    return f"ended: {result_text(run.result)}"
