"""Tables: a talk that is kept, step by step, from its begin to its end."""

from talkcourt.books import Book
from talkcourt.errors import NoMove
from talkcourt.standings import after, heard_by, moves, replies, start, told_by


class Table:
    """A talk about a saying, by a book."""

    def __init__(self, book, saying):
        # A book of its own: what is done to the one handed in doesn't touch the table.
        self.book = Book(book.answers, book.again, book.doubts, book.speaks, book.other)
        self.talk = []
        self.stood = [start(saying)]

    def turn(self):
        """Whose turn it is, by how many steps were done."""
        return "first" if len(self.talk) % 2 == 0 else "other"

    def can(self):
        """A sorted list of the steps that may be done now."""
        if self.turn() == "other":
            return replies(self.talk[-1])
        if self.came_again():
            return []
        return moves(self.book, self.stood[-1])

    def do(self, step):
        """Do a step that may be done now; anything else is refused with NoMove."""
        for fitting in self.can():
            if is_this_step(step, fitting):
                self.keep(fitting)
                return
        raise NoMove(len(self.talk))

    def keep(self, step):
        """Keep a step that may be done, and the standing behind it, if it is a reply."""
        if self.turn() == "other":
            self.stood.append(after(self.book, self.stood[-1], self.talk[-1], step))
        self.talk.append(step)

    def back(self):
        """Take the last step back, or NoMove where nothing was done."""
        if not self.talk:
            raise NoMove(0)
        self.talk.pop()
        if self.turn() == "other":
            self.stood.pop()

    def steps(self):
        """A list of the steps that were done."""
        return list(self.talk)

    def said(self, side):
        """A list of what a side said, in order, as often as it was said."""
        if side == "first":
            told = [told_by(move) for move in self.talk[::2]]
            return [saying for saying in told if saying is not None]
        rounds = list(zip(self.talk[::2], self.talk[1::2]))
        return [saying for move, reply in rounds for saying in heard_by(move, reply)]

    def standing(self):
        """The last standing at which the first must, or had to, speak."""
        return self.stood[-1]

    def came_again(self):
        """Whether that standing stood ahead in this talk."""
        return self.stood[-1] in self.stood[:-1]

    def winner(self):
        """The side that won, or None as long as the talk goes on."""
        if self.can():
            return None
        return "first" if self.turn() == "other" else "other"


def play_all(book, saying, steps):
    """A table at which these steps were done, or NoMove with the number of the first one that can't be."""
    table = Table(book, saying)
    for step in steps:
        table.do(step)
    return table


def is_this_step(thing, step):
    """Whether anything at all is this step."""
    # Place by place, tuples and texts alone: a thing with an == of its own might call itself anything.
    waiting = [(thing, step)]
    while waiting:
        mine, real = waiting.pop()
        if isinstance(real, str):
            if not isinstance(mine, str) or mine != real:
                return False
        elif not isinstance(mine, tuple) or len(mine) != len(real):
            return False
        else:
            waiting.extend(list(zip(mine, real)))
    return True
