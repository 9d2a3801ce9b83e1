"""Facts that save a wait: which outcomes would have to be ruled out."""

from skipahead.ahead.forks import Forks
from skipahead.ahead.lists import front_at, need_stand
from skipahead.ahead.papers import paper_behind
from skipahead.base.books import need_book, outcomes_of
from skipahead.base.counts import need_window
from skipahead.errors import InvalidFacts, InvalidOperation, TooMany
from skipahead.line.facts import Facts, are_facts, choices_of, has_answer, need_facts
from skipahead.plain.programs import need_program

MAX_SETS = 1000


def do_save(program, stand, outs, *, window=16, facts=None):
    """Whether outs save the wait at a stand whose paper is a fork."""
    need_program(program)
    need_stand(program, stand)
    need_outs(program.book, outs, facts)
    need_window(window)
    need_facts(program.book, facts)
    return fork_at(program, stand, window, facts).are_saving(outs)


def least_savings(program, stand, *, window=16, facts=None):
    """The ascending tuple of all least outs that save the wait at a stand whose paper is a fork."""
    need_program(program)
    need_stand(program, stand)
    need_window(window)
    need_facts(program.book, facts)
    found = fork_at(program, stand, window, facts).least_savings(MAX_SETS)
    if len(found) > MAX_SETS:
        raise TooMany(MAX_SETS)
    return tuple(sorted(found))


def with_outs(book, outs, *, facts=None):
    """The facts that leave what these leave, without the pairs of outs."""
    need_book(book)
    need_outs(book, outs, facts)
    need_facts(book, facts)
    return Facts.of(book, left_without(choices_of(book, facts), outs))


def left_without(choices, outs):
    """What is left of these outcomes of each command without the pairs of outs."""
    left = {}
    for command in choices:
        left[command] = tuple([outcome for outcome in choices[command] if (command, outcome) not in outs])
    return left


def need_outs(book, outs, facts):
    """Refuses what are no outs; facts that are none of the book are asked for later."""
    if not isinstance(outs, tuple) or not all([is_out(outcomes_of(book), value) for value in outs]):
        raise InvalidFacts("not a tuple of pairs of a command and one of its outcomes")
    if not all([pair < further for pair, further in zip(outs, outs[1:])]):
        raise InvalidFacts("the pairs of outs are not ascending")
    choices = choices_of(book, facts if are_facts(book, facts) else None)
    left = left_without(choices, outs)
    for command in left:
        if not has_answer(left[command]):
            raise InvalidFacts(f"the command {command} would have no answer left")


def is_out(choices, value):
    """Whether the value is a pair of a command with these outcomes and one of them."""
    if not isinstance(value, tuple) or len(value) != 2:
        return False
    return isinstance(value[0], str) and value[0] in choices and value[1] in choices[value[0]]


def fork_at(program, stand, window, facts):
    """The fates behind the forced list of a stand that clash; refuses a stand whose paper is no fork."""
    front = front_at(program, stand, facts)
    if paper_behind(front, front.grow(window))[0] != "fork":
        raise InvalidOperation("the wait paper of the stand is no fork")
    return Forks(front)
