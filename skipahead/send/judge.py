"""What shows whether a sender does the same as a program."""

from skipahead.base.counts import need_window
from skipahead.base.search import are_ascending, by_text, explored, is_closed
from skipahead.errors import InvalidRow, InvalidSender, TooMany, Unlike
from skipahead.line.facts import choices_of, need_facts
from skipahead.line.tape import KEPT
from skipahead.plain.programs import Program, need_program
from skipahead.plain.runs import behind
from skipahead.send.sames import Sames, is_same_state
from skipahead.send.senders import Sender, SenderRun, come_as_far, sender_behind

MAX_SAME_STATES = 3000


def does_same(program, sender, *, window=16, facts=None):
    """Whether a sender does the same as a program."""
    need_like(program, sender, window, facts)
    return unlike_row(program, sender, window, facts) is None


def same_paper(program, sender, *, window=16, facts=None):
    """A paper that shows whether a sender does the same as a program, its row as short as possible."""
    need_like(program, sender, window, facts)
    sames = Sames(program, sender, window, facts)
    known, row = explored(sames, sames.first(), MAX_SAME_STATES)
    if row is not None:
        return "unlike", row
    return "same", by_text(sames, known)


def unlike_row(program, sender, window, facts):
    """A shortest row with which a sender does not do the same as a program, or None."""
    sames = Sames(program, sender, window, facts)
    return explored(sames, sames.first(), MAX_SAME_STATES)[1]


def is_same_paper(program, sender, value, *, window=16, facts=None):
    """Whether the value is a paper that shows whether a sender does the same as a program."""
    need_like(program, sender, window, facts)
    if not isinstance(value, tuple) or len(value) != 2:
        return False
    if value[0] == "unlike":
        return is_unlike(program, sender, value[1], window, choices_of(program.book, facts))
    if value[0] != "same" or not isinstance(value[1], tuple):
        return False
    if not all([is_same_state(program, sender, state) for state in value[1]]):
        return False
    sames = Sames(program, sender, window, facts)
    if not are_ascending([repr(state) for state in value[1]]):
        return False
    return is_closed(sames, sames.first(), [sames.key_of(state) for state in value[1]])


def is_unlike(program, sender, row, window, choices):
    """Whether the value is a row with these choices of outcomes, behind which a program and a sender differ."""
    try:
        one = behind(program, row)
        other = sender_behind(sender, row, window=window)
    except (InvalidRow, TooMany):
        return False
    entries = [entry for entry in one[0] + other[0] if entry != KEPT]
    return one != other and all([entry[2] in choices[entry[0]] for entry in entries])


class Guard:
    """What lets only those senders pass that do the same as a program."""

    @staticmethod
    def check(program, sender, *, window=16, facts=None):
        """A paper that shows that a sender does the same as a program; refuses one that does not."""
        paper = same_paper(program, sender, window=window, facts=facts)
        if paper[0] == "unlike":
            raise Unlike(paper[1])
        return paper


class GuardedRun(SenderRun, Guard):
    """A run of a sender that does the same as a program."""

    def __init__(self, program, sender, server, *, window=16, facts=None):
        self._paper = Guard.check(program, sender, window=window, facts=facts)
        super().__init__(sender, server, window=window)

    @property
    def paper(self):
        """A paper that shows that the sender does the same as the program."""
        return self._paper

    def twin(self):
        """An independent run that has come as far."""
        # A new run is judged anew; a sender that ends at once costs nothing.
        book = self._sender.book
        run = GuardedRun(Program(book, ("last",)), Sender(book, ("last",)), ())
        run._paper = self._paper
        return come_as_far(run, self)


def need_like(program, sender, window, facts):
    """Refuses what does not tell a program, a sender with its book and its parameters, a window and facts."""
    need_program(program)
    if not isinstance(sender, Sender) or sender.book != program.book or sender.parameters != program.parameters:
        raise InvalidSender("not a sender with the book and the parameters of the program")
    need_window(window)
    need_facts(program.book, facts)
