"""Books written as texts and read from them."""

from talkcourt.books import Book
from talkcourt.errors import NoBook
from talkcourt.helper import words_between_blanks

# The sorts of rows, and the words that may stand behind each, place by place.
CHOICES = {
    "first answers": (("last", "any"), ("once", "often")),
    "first doubts": (("once", "often"),),
    "first speaks": (("last", "any"),),
    "other speaks": (("last", "any"),),
}


def show_book(book):
    """The four rows of a book."""
    return "\n".join([
        f"first answers {book.answers} {book.again}",
        f"first doubts {book.doubts}",
        f"first speaks {book.speaks}",
        f"other speaks {book.other}",
    ])


def read_book(text):
    """The book that a text writes, or NoBook."""
    if not isinstance(text, str):
        raise NoBook(0)
    rows = text.split("\n")
    found = {}
    for number, row in enumerate(rows, start=1):
        words = words_between_blanks(row)
        if words:
            sort = " ".join(words[:2])
            if sort in found or not fits(sort, words[2:]):
                raise NoBook(number)
            found[sort] = words[2:]
    if len(found) < len(CHOICES):
        raise NoBook(len(rows) + 1)
    return made_book(found)


def fits(sort, words):
    """Whether a row of this sort may go on with just these words."""
    if sort not in CHOICES or len(words) != len(CHOICES[sort]):
        return False
    return all([word in choice for word, choice in zip(words, CHOICES[sort])])


def made_book(found):
    """The book of the words that were found behind each sort of row."""
    answers, again = found["first answers"]
    return Book(answers, again, found["first doubts"][0], found["first speaks"][0], found["other speaks"][0])
