import itertools
import unittest

from helper import all_books, fields
from talkcourt.booktexts import read_book, show_book
from talkcourt.books import Book, free, let_by, no_more, same_book, strict
from talkcourt.errors import NoBook

ROWS = ("first answers last once", "first doubts often", "first speaks any", "other speaks last")
GOOD = "\n".join(ROWS)
NO_ROWS = (
    "first", "other", "first answers", "first answers last", "first answers last once once", "first answers once last",
    "first answers last last", "first answers often once", "first answers any any", "first answers all once",
    "first answers last never", "First answers last once", "first Answers last once", "first answers Last once",
    "first answers lastonce", "firstanswers last once", "first answers last, once", "answers last once", "answers first last once",
    "other answers last once", "first doubts", "first doubts last", "first doubts any", "first doubts once often",
    "first doubts once once", "other doubts once", "first doubts sometimes", "doubts once", "first speaks", "first speaks once",
    "first speaks often", "first speaks last any", "other speaks", "other speaks once", "other speaks last last", "speaks last",
    "none speaks last", "first other speaks last", "x", ".", "0", "first doubts once.", "first\tdoubts once", "\t", "\r",
    "first doubts once\r", "first doubts\u00a0once", "\u00a0", "\x0b", "\x0c", "first doubts on", "first speaks la",
    "first doubts once first speaks any",
)
NO_TEXTS = (None, True, False, 0, 1, 2.5, b"", GOOD.encode(), [], list(ROWS), ROWS, (), {}, object(), strict())


class Books(unittest.TestCase):
    def refused(self, text, row):
        with self.subTest(text=text), self.assertRaises(NoBook) as held:
            read_book(text)
        self.assertEqual(held.exception.row, row, text)
        self.assertNotIsInstance(held.exception.row, bool)


class Fields(Books):
    def test_as_made(self):
        for made in itertools.product(("last", "any"), ("once", "often"), ("once", "often"), ("last", "any"), ("last", "any")):
            self.assertEqual(fields(Book(*made)), made)

    def test_other_has_a_default(self):
        self.assertEqual(fields(Book("any", "once", "often", "last")), ("any", "once", "often", "last", "last"))

    def test_strict_and_free(self):
        self.assertEqual(fields(strict()), ("last", "once", "often", "any", "last"))
        self.assertEqual(fields(free()), ("any", "often", "often", "any", "last"))

    def test_strict_and_free_are_the_askers_own(self):
        for ask, kept in ((strict, fields(strict())), (free, fields(free()))):
            ask().answers = "something"
            self.assertEqual(fields(ask()), kept)
            self.assertIsNot(ask(), ask())

    def test_let_by(self):
        for book in all_books():
            self.assertIs(let_by(book), book.other == "last")
        self.assertIs(let_by(strict()), True)
        self.assertIs(let_by(Book("last", "once", "often", "any", "any")), False)

    def test_same_book(self):
        for one in all_books():
            for other in all_books():
                self.assertIs(same_book(one, other), fields(one) == fields(other))

    def test_no_more_over_all_pairs(self):
        wide = {"last": 0, "any": 1, "once": 0, "often": 1}
        for one in all_books():
            for other in all_books():
                pairs = list(zip(fields(one), fields(other)))[:4]
                self.assertIs(no_more(one, other), all(wide[mine] <= wide[yours] for mine, yours in pairs))

    def test_no_more_by_hand(self):
        least, most = Book("last", "once", "once", "last"), Book("any", "often", "often", "any")
        self.assertIs(no_more(least, most), True)
        self.assertIs(no_more(most, least), False)
        self.assertIs(no_more(strict(), free()), True)
        self.assertIs(no_more(free(), strict()), False)
        self.assertIs(no_more(strict(), strict()), True)
        one, other = Book("last", "often", "once", "last"), Book("any", "once", "once", "last")
        self.assertIs(no_more(one, other), False)
        self.assertIs(no_more(other, one), False)
        self.assertIs(no_more(Book("last", "once", "once", "last", "any"), least), True)
        self.assertIs(no_more(least, Book("last", "once", "once", "last", "any")), True)

    def test_books_that_are_asked_of_stay_as_they_were(self):
        for book in all_books():
            kept = fields(book)
            for ask in (let_by, show_book):
                self.assertEqual(ask(book), ask(book))
            no_more(book, free())
            same_book(book, strict())
            self.assertEqual(fields(book), kept)


class Texts(Books):
    def test_written(self):
        self.assertEqual(show_book(strict()), GOOD)
        self.assertEqual(
            show_book(free()), "first answers any often\nfirst doubts often\nfirst speaks any\nother speaks last"
        )
        self.assertEqual(
            show_book(Book("last", "often", "once", "last", "any")),
            "first answers last often\nfirst doubts once\nfirst speaks last\nother speaks any",
        )

    def test_all_books_written_and_read_again(self):
        texts = set()
        for book in all_books():
            text = show_book(book)
            texts.add(text)
            rows = text.split("\n")
            self.assertEqual(rows, [
                f"first answers {book.answers} {book.again}",
                f"first doubts {book.doubts}",
                f"first speaks {book.speaks}",
                f"other speaks {book.other}",
            ])
            self.assertEqual(fields(read_book(text)), fields(book))
            for order in itertools.permutations(rows):
                self.assertEqual(fields(read_book("\n".join(order))), fields(book))
        self.assertEqual(len(texts), 32)

    def test_blanks_more(self):
        kept = fields(strict())
        for gap in (" ", "  ", "       "):
            for ahead in ("", " ", "    "):
                for behind in ("", " ", "    "):
                    rows = [ahead + row.replace(" ", gap) + behind for row in ROWS]
                    self.assertEqual(fields(read_book("\n".join(rows))), kept)

    def test_rows_of_blanks_and_without_signs(self):
        kept = fields(strict())
        for empty in ("", " ", "     "):
            for many in (1, 2, 5):
                gap = "\n" + (empty + "\n") * many
                self.assertEqual(fields(read_book(gap.join(ROWS))), kept)
                self.assertEqual(fields(read_book((empty + "\n") * many + GOOD)), kept)
                self.assertEqual(fields(read_book(GOOD + ("\n" + empty) * many)), kept)

    def test_the_book_told_is_the_askers_own(self):
        told = read_book(GOOD)
        told.answers = "something"
        self.assertEqual(fields(read_book(GOOD)), fields(strict()))


class Refused(Books):
    def test_a_row_that_is_none_of_these(self):
        for wrong in NO_ROWS:
            for at in range(5):
                rows = list(ROWS[:at]) + [wrong] + list(ROWS[at:])
                self.refused("\n".join(rows), at + 1)
            for at in range(4):
                rows = list(ROWS[:at]) + [wrong] + list(ROWS[at + 1:])
                self.refused("\n".join(rows), at + 1)
            self.refused(wrong, 1)
            self.refused("\n \n" + wrong, 3)

    def test_a_sort_that_was_there(self):
        others = ("first answers any often", "first doubts once", "first speaks last", "other speaks any")
        for at in range(4):
            for again in (ROWS[at], others[at], "  " + others[at].replace(" ", "  ")):
                self.refused(GOOD + "\n" + again, 5)
                self.refused(GOOD + "\n\n  \n" + again, 7)
                self.refused("\n".join([again, ROWS[at]]), 2)
                self.refused("\n".join(["", again, "", ROWS[at], GOOD]), 4)

    def test_a_row_that_lacks(self):
        for many in range(4):
            for rows in itertools.combinations(ROWS, many):
                text = "\n".join(rows)
                self.refused(text, len(text.split("\n")) + 1)
                self.refused(text + "\n\n ", len(text.split("\n")) + 3)
                self.refused("\n" + text, len(text.split("\n")) + 2)

    def test_counted_by_hand(self):
        self.refused("", 2)
        self.refused(" ", 2)
        self.refused("\n", 3)
        self.refused("\n\n\n", 5)
        self.refused("first doubts once", 2)
        self.refused("first doubts once\n", 3)
        self.refused("first answers last once\nfirst doubts once\nfirst speaks any", 4)
        self.refused("first answers last once\nfirst doubts once\nfirst speaks any\nother speaks", 4)
        self.refused("first answers last once\n\nfirst doubts once\nfirst doubts once", 4)

    def test_the_first_of_several_wrong_rows(self):
        self.refused("first doubts once\nfirst doubts once\nnone", 2)
        self.refused("none\nfirst doubts once\nfirst doubts once", 1)
        self.refused("first doubts once\nnone\nfirst doubts once\nfirst doubts never", 2)
        self.refused("\nfirst doubts never\nnone\n" + GOOD, 2)
        self.refused(GOOD + "\nother speaks any\nnone", 5)
        self.refused("first doubts never\nfirst doubts once", 1)

    def test_what_is_no_text(self):
        for thing in NO_TEXTS:
            self.refused(thing, 0)

    def test_what_is_refused_changes_nothing(self):
        rows = list(ROWS)
        self.refused(rows, 0)
        self.assertEqual(rows, list(ROWS))
        self.refused("none", 1)
        self.assertEqual(fields(read_book(GOOD)), fields(strict()))


if __name__ == "__main__":
    unittest.main()
