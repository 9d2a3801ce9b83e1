"""What decides the outcomes of a run: a server, or a row."""

from skipahead.base.items import is_row
from skipahead.errors import InvalidServer
from skipahead.line.servers import Server


def need_source(book, server):
    """Refuses what is neither a server with this book nor a row of it."""
    if isinstance(server, Server):
        if server.book != book:
            raise InvalidServer("a server with another book")
    elif not is_row(book, server):
        raise InvalidServer("neither a server nor a row")
