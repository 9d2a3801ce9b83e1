"""What decides the outcomes of a run: a server, or a row. Its place is a state, or how many outcomes were used."""

from skipahead.base.items import is_row
from skipahead.errors import InvalidRow, InvalidServer
from skipahead.line.servers import Server, step_of


def need_source(book, server):
    """Refuses what is neither a server with this book nor a row of it."""
    if isinstance(server, Server):
        if server.book != book:
            raise InvalidServer("a server with another book")
    elif not is_row(book, server):
        raise InvalidServer("neither a server nor a row")


def first_place(server):
    """The place at the beginning."""
    return server.start if isinstance(server, Server) else 0


def is_over(server, place):
    """Whether this is a row that has no further outcome."""
    return isinstance(server, tuple) and place >= len(server)


def outcome_at(choices, server, place, command):
    """The pair of the outcome that a command, with these choices for each one, has at a place, and the place behind."""
    if isinstance(server, Server):
        return step_of(server, place, command)
    if server[place] not in choices[command]:
        raise InvalidRow(f"not an outcome of the command {command} here: {server[place]}")
    return server[place], place + 1


def place_behind_kept(server, place):
    """The place behind a deal that is kept and in which something was tried."""
    return step_of(server, place, "kept") if isinstance(server, Server) else place
