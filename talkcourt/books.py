"""Books of rules: what the first may do, and how two books stand to one another."""

# The narrower word of a field and the wider one.
NARROWER = (("last", "any"), ("once", "often"))


class Book:
    """A book of rules; its fields stay as they were made."""

    def __init__(self, answers, again, doubts, speaks, other="last"):
        self.answers = answers
        self.again = again
        self.doubts = doubts
        self.speaks = speaks
        self.other = other


def strict():
    """The strict book."""
    return Book("last", "once", "often", "any", "last")


def free():
    """The free book."""
    return Book("any", "often", "often", "any", "last")


def let_by(book):
    """Whether a book is let by."""
    return book.other == "last"


def no_more(one, other):
    """Whether one book lets the first do no more than the other one."""
    pairs = list(zip(fields_of_first(one), fields_of_first(other)))
    return all([mine == yours or (mine, yours) in NARROWER for mine, yours in pairs])


def same_book(one, other):
    """Whether all five fields are alike."""
    return fields_of_first(one) == fields_of_first(other) and one.other == other.other


def fields_of_first(book):
    """The four fields that speak of the first, in order."""
    return (book.answers, book.again, book.doubts, book.speaks)
