"""Whole talks, step by step, by every book that is let by."""

import unittest

from helper import A, B, books_let_by, fields
from talkcourt.sayread import read_saying
from talkcourt.standings import after, moves, replies, start, told_by


def way_of(book):
    """Which of the four ways to keep open doubts a book has."""
    if book.speaks == "last":
        return "spoken"
    return "last" if book.answers == "last" else book.again


class Talks(unittest.TestCase):
    def begin(self, book, text):
        self.book = book
        self.saying = read_saying(text)
        self.standing = start(self.saying)
        self.assertEqual(self.standing, ((), (("begin", self.saying),), (), ()))

    def can(self, *expected):
        """The moves are just these, but for answers to begin, which some books leave open."""
        found = moves(self.book, self.standing)
        begin = ("answer", ("begin", self.saying), self.saying)
        self.assertEqual([move for move in found if move != begin], sorted(expected), fields(self.book))
        self.assertEqual(begin in found, ("begin", self.saying) in self.standing[1])

    def step(self, move, told, all_replies, reply, **stands):
        """Do a move and a reply, and look at what stands behind them."""
        self.assertIn(move, moves(self.book, self.standing), fields(self.book))
        self.assertEqual(told_by(move), told)
        self.assertEqual(replies(move), all_replies)
        self.standing = after(self.book, self.standing, move, reply)
        expected = (
            stands["said"],
            stands["unanswered"][way_of(self.book)],
            stands["used"] if self.book.doubts == "once" else (),
            stands["fresh"] if self.book.speaks == "last" else (),
        )
        self.assertEqual(self.standing, expected, fields(self.book))

    def last_word(self, move, told):
        """Do a move to which there is no reply."""
        self.assertIn(move, moves(self.book, self.standing), fields(self.book))
        self.assertEqual(told_by(move), told)
        self.assertEqual(replies(move), [])

    def answer_begin(self, word, said):
        """The first says what the talk is about, and the other doubts it by this word, saying this."""
        begin, made = ("begin", self.saying), (word, self.saying)
        self.assertEqual(moves(self.book, self.standing), [("answer", begin, self.saying)])
        both = tuple(sorted((begin, made)))
        self.step(
            ("answer", begin, self.saying), self.saying, [("doubt", word)], ("doubt", word),
            said=said, unanswered={"spoken": (made,), "last": (made,), "once": (made,), "often": both}, used=(), fresh=said,
        )

    def test_a_then_a(self):
        for book in books_let_by():
            self.begin(book, "a then a")
            self.answer_begin("if", (A,))
            self.can(("answer", ("if", self.saying), A))
            self.last_word(("answer", ("if", self.saying), A), A)

    def test_a_alone(self):
        for book in books_let_by():
            self.begin(book, "a")
            self.assertEqual(moves(book, self.standing), [])

    def test_a_then_not_not_a(self):
        for book in books_let_by():
            self.begin(book, "a then not not a")
            no, nono = ("not", A), ("not", ("not", A))
            begin, asked = ("begin", self.saying), ("if", self.saying)
            self.answer_begin("if", (A,))
            self.can(("answer", asked, nono))
            made = (("not", nono),)
            self.step(
                ("answer", asked, nono), nono, [("doubt", "not")], ("doubt", "not"),
                said=(no, A),
                unanswered={"spoken": made, "last": made, "once": made, "often": (begin, asked, ("not", nono))},
                used=(), fresh=(no,),
            )
            still = [("answer", asked, nono)] if way_of(book) == "often" else []
            self.can(("doubt", "not", no), *still)
            self.last_word(("doubt", "not", no), A)

    def test_a_or_not_a(self):
        for book in books_let_by():
            self.begin(book, "a or not a")
            no = ("not", A)
            begin, asked, made = ("begin", self.saying), ("which", self.saying), ("not", no)
            self.answer_begin("which", ())
            self.can(("answer", asked, no))
            self.step(
                ("answer", asked, no), no, [("doubt", "not")], ("doubt", "not"),
                said=(A,),
                unanswered={"spoken": (made,), "last": (made,), "once": (made,), "often": (begin, made, asked)},
                used=(), fresh=(A,),
            )
            if way_of(book) != "often":
                self.assertEqual(moves(book, self.standing), [])
            else:
                self.can(("answer", asked, A), ("answer", asked, no))
                self.last_word(("answer", asked, A), A)

    def test_and_turned_round(self):
        both, turned = ("and", A, B), ("and", B, A)
        for book in books_let_by():
            self.begin(book, "a and b then b and a")
            begin, asked = ("begin", self.saying), ("if", self.saying)
            self.answer_begin("if", (both,))
            go_on, left, right = ("answer", asked, turned), ("doubt", "left", both), ("doubt", "right", both)
            self.can(go_on, left, right)
            stays = {"spoken": (), "last": (asked,), "once": (asked,), "often": (begin, asked)}
            self.step(
                left, None, [("answer", A)], ("answer", A),
                said=(both, A), unanswered=stays, used=(("left", both),), fresh=(A,),
            )
            if book.speaks == "last":
                self.assertEqual(moves(book, self.standing), [])
                continue
            self.can(go_on, right, *([left] if book.doubts == "often" else []))
            used = (("left", both), ("right", both))
            self.step(
                right, None, [("answer", B)], ("answer", B),
                said=(both, A, B), unanswered=stays, used=used, fresh=(B,),
            )
            self.can(go_on, *([left, right] if book.doubts == "often" else []))
            made = ("right", turned)
            self.step(
                go_on, turned, [("doubt", "left"), ("doubt", "right")], ("doubt", "right"),
                said=(both, A, B),
                unanswered={"last": (made,), "once": (made,), "often": (begin, asked, made)},
                used=used, fresh=(),
            )
            self.last_word(("answer", made, A), A)

    def test_a_doubt_that_is_doubted(self):
        no, nono = ("not", A), ("not", ("not", A))
        for book in books_let_by():
            self.begin(book, "not not not a then not a")
            threefold = ("not", nono)
            begin, asked = ("begin", self.saying), ("if", self.saying)
            self.answer_begin("if", (threefold,))
            self.can(("answer", asked, no), ("doubt", "not", threefold))
            made = ("not", nono)
            self.step(
                ("doubt", "not", threefold), nono, [("doubt", "not")], ("doubt", "not"),
                said=(threefold, no),
                unanswered={"spoken": (made,), "last": (made,), "once": (asked, made), "often": (begin, asked, made)},
                used=(("not", threefold),), fresh=(no,),
            )
            can = [] if book.speaks == "last" or book.doubts == "once" else [("doubt", "not", threefold)]
            if way_of(book) in ("once", "often"):
                can.append(("answer", asked, no))
            self.can(*can)
            if way_of(book) not in ("once", "often"):
                continue
            made = ("not", no)
            self.step(
                ("answer", asked, no), no, [("doubt", "not")], ("doubt", "not"),
                said=(threefold, no, A),
                unanswered={"once": (("not", nono), made), "often": (begin, asked, ("not", nono), made)},
                used=(("not", threefold),), fresh=(A,),
            )
            self.last_word(("doubt", "not", no), A)

    def test_an_if_that_is_used(self):
        use = ("if", A, B)
        for book in books_let_by():
            self.begin(book, "(a then b) then a then b")
            begin, asked, made = ("begin", self.saying), ("if", self.saying), ("if", use)
            self.answer_begin("if", (use,))
            self.can(("answer", asked, use))
            self.step(
                ("answer", asked, use), use, [("doubt", "if")], ("doubt", "if"),
                said=(use, A),
                unanswered={"spoken": (made,), "last": (made,), "once": (made,), "often": tuple(sorted((begin, asked, made)))},
                used=(), fresh=(A,),
            )
            if book.speaks == "last":
                self.assertEqual(moves(book, self.standing), [])
                continue
            still = [("answer", asked, use)] if way_of(book) == "often" else []
            self.can(("doubt", "if", use), *still)
            self.step(
                ("doubt", "if", use), A, [("answer", B)], ("answer", B),
                said=(use, A, B),
                unanswered={"last": (made,), "once": (made,), "often": tuple(sorted((begin, asked, made)))},
                used=(("if", use),), fresh=(B,),
            )
            self.last_word(("answer", made, B), B)


if __name__ == "__main__":
    unittest.main()
