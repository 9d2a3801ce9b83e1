"""What a line tells, worked out anew from the words of the document."""

from skipahead.base.books import Book

SMALL = Book(a=(1, ("ok",)), b=(0, ("no", "yes")))
MARK = ("mark",)


class Model:
    """All that is told of items with the outcomes that they have if they are tried."""

    def __init__(self, steps):
        self.items = tuple(item for item, _ in steps)
        self.replies = ()
        self.work = ()
        self.values = {}
        self.tried = 0
        self.kept = 0
        self.deal = "fresh"
        for at, (item, outcome) in enumerate(steps):
            if item == MARK:
                self.replies += ("undone" if self.deal == "broken" else "kept",)
                if self.deal == "open":
                    self.work += (("kept",),)
                    self.kept += 1
                self.deal = "fresh"
            elif self.deal == "broken":
                self.replies += ("skipped",)
            else:
                origins = tuple(self.origin(argument) for argument in item[2])
                self.replies += (outcome,)
                self.work += ((item[1], origins, outcome),)
                self.deal = "broken" if outcome == "failed" else "open"
                if outcome != "failed":
                    self.values[at] = self.tried
                self.tried += 1

    def origin(self, argument):
        """The origin of an argument of the next item."""
        return self.values.get(argument) if isinstance(argument, int) else argument

    def arguments(self):
        """The arguments that can stand in the next item."""
        return [None, "x"] + [at for at, item in enumerate(self.items) if item != MARK]

    def next_items(self, book):
        """The items of the book that can be sent next, with up to one argument, and their outcomes."""
        found = []
        for command in book:
            for argument in self.arguments() if book.takes(command) else ["none"]:
                arguments = () if argument == "none" else (argument,)
                outcomes = (None,) if self.deal == "broken" else book.outcomes(command)
                found += [(("send", command, arguments), outcome) for outcome in outcomes]
        return found + [(MARK, None)]


def all_steps(book, many):
    """All steps of up to so many items with a book whose commands take up to one argument."""
    layers = [[()]]
    for _ in range(many):
        layers.append([steps + (step,) for steps in layers[-1] for step in Model(steps).next_items(book)])
    return [steps for layer in layers for steps in layer]
