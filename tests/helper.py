"""What several test files need: sayings by the hundred, sayings at the edges, and all books."""

import itertools

from talkcourt.books import Book

A, B, C = ("say", "a"), ("say", "b"), ("say", "c")
TWO_SIDED = ("and", "if", "or")


def sayings_of_size(many, names=("a", "b")):
    """All sayings of so many parts over these names."""
    if many == 1:
        return [("say", name) for name in names]
    found = [("not", side) for side in sayings_of_size(many - 1, names)]
    for left_size in range(1, many - 1):
        for left in sayings_of_size(left_size, names):
            for right in sayings_of_size(many - 1 - left_size, names):
                found.extend((word, left, right) for word in TWO_SIDED)
    return found


def small_sayings(largest, names=("a", "b")):
    """All sayings of at most so many parts over these names."""
    return [saying for many in range(1, largest + 1) for saying in sayings_of_size(many, names)]


def chain(word, deep, leaning, bare=A, end=B):
    """A saying that nests so deep by one word, all along its left or its right side."""
    saying = end
    for _ in range(deep):
        if word == "not":
            saying = ("not", saying)
        elif leaning == "left":
            saying = (word, saying, bare)
        else:
            saying = (word, bare, saying)
    return saying


def edge_sayings():
    """Sayings that nest 20 deep, or have 40 parts, or both, of every sort, leaning either way."""
    found = [chain("not", 20, "left")]
    for word in TWO_SIDED:
        for leaning in ("left", "right"):
            nineteen = chain(word, 19, leaning)
            found.append(("not", nineteen))
            found.append(chain(word, 19, leaning, end=("not", B)))
            found.append(chain(word, 20, leaning))
    for word in TWO_SIDED:
        for other in TWO_SIDED:
            mixed = B
            for step in range(19):
                mixed = (word, mixed, A) if step % 2 else (other, C, mixed)
            found.append(("not", mixed))
    return found


def all_books():
    """All thirty-two books, by their fields."""
    wide, often = ("last", "any"), ("once", "often")
    return [Book(*fields) for fields in itertools.product(wide, often, often, wide, wide)]


def books_let_by():
    """The sixteen books whose other speaks to the last."""
    return [book for book in all_books() if book.other == "last"]


def fields(book):
    """The five fields of a book, in their order."""
    return (book.answers, book.again, book.doubts, book.speaks, book.other)
