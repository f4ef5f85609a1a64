import unittest

from helper import A, B, C, books_let_by, fields, small_sayings
from talkcourt.books import Book, free, strict
from talkcourt.standings import after, moves, replies, start, told_by

NOT, AND, OR, IF = ("not", A), ("and", A, B), ("or", A, B), ("if", A, B)


def books_with(**wanted):
    """The books that are let by and have these fields."""
    return [book for book in books_let_by() if all(getattr(book, name) == word for name, word in wanted.items())]


class Start(unittest.TestCase):
    def test_start(self):
        for saying in small_sayings(4):
            self.assertEqual(start(saying), ((), (("begin", saying),), (), ()))


class Moves(unittest.TestCase):
    def check(self, books, standing, expected):
        for book in books:
            with self.subTest(book=fields(book), standing=standing):
                self.assertEqual(moves(book, standing), expected)

    def test_at_the_begin(self):
        for saying in small_sayings(4):
            bare = saying[0] == "say"
            self.check(books_let_by(), start(saying), [] if bare else [("answer", ("begin", saying), saying)])

    def test_a_bare_begin_that_the_other_said(self):
        self.check(books_let_by(), ((A,), (("begin", A),), (), ()), [("answer", ("begin", A), A)])
        self.check(books_let_by(), ((B,), (("begin", A),), (), ()), [])

    def test_answers_to_open_doubts(self):
        unanswered = (("begin", IF), ("if", IF), ("left", ("and", NOT, B)), ("not", NOT), ("which", OR))
        self.check(books_let_by(), ((), unanswered, (), ()), [
            ("answer", ("begin", IF), IF),
            ("answer", ("left", ("and", NOT, B)), NOT),
        ])
        self.check(books_let_by(), ((B,), unanswered, (), ()), [
            ("answer", ("begin", IF), IF),
            ("answer", ("if", IF), B),
            ("answer", ("left", ("and", NOT, B)), NOT),
            ("answer", ("which", OR), B),
        ])
        self.check(books_let_by(), ((A, B), unanswered, (), ()), [
            ("answer", ("begin", IF), IF),
            ("answer", ("if", IF), B),
            ("answer", ("left", ("and", NOT, B)), NOT),
            ("answer", ("which", OR), A),
            ("answer", ("which", OR), B),
        ])

    def test_an_or_of_a_saying_with_itself(self):
        twice = ("or", NOT, NOT)
        self.check(books_let_by(), ((), (("which", twice),), (), ()), [("answer", ("which", twice), NOT)])

    def test_nothing_open_and_nothing_said(self):
        self.check(books_let_by(), ((), (), (), ()), [])
        self.check(books_let_by(), ((A, B), (), (), ()), [])
        self.check(books_let_by(), ((A, B), (("not", NOT),), (), (A,)), [])

    def test_doubts_of_said_or_of_fresh(self):
        said = (AND, IF, NOT, OR, A)
        every = [("doubt", "if", IF), ("doubt", "left", AND), ("doubt", "not", NOT), ("doubt", "right", AND), ("doubt", "which", OR)]
        self.check(books_with(speaks="any"), (said, (), (), ()), every)
        self.check(books_with(speaks="last"), (said, (), (), ()), [])
        self.check(books_with(speaks="last"), (said, (), (), (OR,)), [("doubt", "which", OR)])
        self.check(books_with(speaks="last"), (said, (), (), (AND,)), [("doubt", "left", AND), ("doubt", "right", AND)])
        self.check(books_with(speaks="last"), (said, (), (), (A,)), [])
        self.check(books_with(speaks="last"), (said, (), (), said), every)

    def test_none_of_used_where_doubts_is_once(self):
        said = (AND, NOT, OR, A)
        used = (("left", AND), ("not", NOT))
        some = [("doubt", "right", AND), ("doubt", "which", OR)]
        every = [("doubt", "left", AND), ("doubt", "not", NOT), ("doubt", "right", AND), ("doubt", "which", OR)]
        self.check(books_with(speaks="any", doubts="once"), (said, (), used, ()), some)
        self.check(books_with(speaks="any", doubts="often"), (said, (), (), ()), every)
        self.check(books_with(speaks="last", doubts="once"), (said, (), used, said), some)
        self.check(books_with(speaks="last", doubts="often"), (said, (), (), said), every)
        self.check(books_with(speaks="last", doubts="once"), (said, (), used, (AND,)), [("doubt", "right", AND)])
        self.check(books_with(speaks="last", doubts="once"), (said, (), used, (NOT,)), [])

    def test_used_speaks_of_doubts_not_of_answers(self):
        self.check(
            books_with(doubts="once"), ((A, B), (("which", OR),), (("which", OR),), ()),
            [("answer", ("which", OR), A), ("answer", ("which", OR), B)],
        )

    def test_a_bare_saying_by_a_doubt_only_where_it_was_said(self):
        for saying, word in ((IF, "if"), (NOT, "not")):
            said = (saying,)
            self.check(books_with(speaks="any"), (said, (), (), ()), [])
            self.check(books_with(speaks="last"), (said, (), (), said), [])
            self.check(books_with(speaks="any"), (said + (B,), (), (), ()), [])
            self.check(books_with(speaks="any"), (said + (A,), (), (), ()), [("doubt", word, saying)])
            self.check(books_with(speaks="last"), (said + (A,), (), (), said), [("doubt", word, saying)])
        for saying, word in ((("if", AND, C), "if"), (("not", AND), "not")):
            self.check(books_with(speaks="any"), ((saying,), (), (), ()), [("doubt", word, saying)])
            self.check(books_with(speaks="last"), ((saying,), (), (), (saying,)), [("doubt", word, saying)])

    def test_what_the_first_himself_says_is_not_said(self):
        self.check(books_let_by(), ((), (("if", IF), ("not", NOT)), (), ()), [])

    def test_answers_and_doubts_are_sorted_together(self):
        self.check(books_with(speaks="any"), ((AND, B), (("which", OR),), (), ()), [
            ("answer", ("which", OR), B), ("doubt", "left", AND), ("doubt", "right", AND),
        ])


class Replies(unittest.TestCase):
    def check(self, move, told, expected):
        with self.subTest(move=move):
            self.assertEqual(told_by(move), told)
            self.assertEqual(replies(move), expected)

    def test_to_answers(self):
        big = ("or", ("or", A, NOT), ("or", AND, IF))
        self.check(("answer", ("which", OR), A), A, [])
        self.check(("answer", ("which", ("or", A, NOT)), NOT), NOT, [("doubt", "not")])
        self.check(("answer", ("which", ("or", AND, IF)), AND), AND, [("doubt", "left"), ("doubt", "right")])
        self.check(("answer", ("which", ("or", AND, IF)), IF), IF, [("doubt", "if")])
        self.check(("answer", ("which", big), ("or", A, NOT)), ("or", A, NOT), [("doubt", "which")])
        self.check(("answer", ("begin", big), big), big, [("doubt", "which")])
        self.check(("answer", ("begin", A), A), A, [])
        self.check(("answer", ("left", AND), A), A, [])
        self.check(("answer", ("right", ("and", A, NOT)), NOT), NOT, [("doubt", "not")])
        self.check(("answer", ("if", ("if", A, OR)), OR), OR, [("doubt", "which")])

    def test_to_doubts_that_say_nothing(self):
        self.check(("doubt", "left", AND), None, [("answer", A)])
        self.check(("doubt", "right", AND), None, [("answer", B)])
        self.check(("doubt", "which", ("or", B, A)), None, [("answer", A), ("answer", B)])
        self.check(("doubt", "which", ("or", A, A)), None, [("answer", A)])

    def test_to_doubts_by_if(self):
        self.check(("doubt", "if", IF), A, [("answer", B)])
        self.check(("doubt", "if", ("if", NOT, B)), NOT, [("answer", B), ("doubt", "not")])
        self.check(("doubt", "if", ("if", AND, B)), AND, [("answer", B), ("doubt", "left"), ("doubt", "right")])
        self.check(("doubt", "if", ("if", OR, OR)), OR, [("answer", OR), ("doubt", "which")])
        self.check(("doubt", "if", ("if", IF, NOT)), IF, [("answer", NOT), ("doubt", "if")])

    def test_to_doubts_by_not(self):
        self.check(("doubt", "not", NOT), A, [])
        self.check(("doubt", "not", ("not", NOT)), NOT, [("doubt", "not")])
        self.check(("doubt", "not", ("not", AND)), AND, [("doubt", "left"), ("doubt", "right")])
        self.check(("doubt", "not", ("not", OR)), OR, [("doubt", "which")])
        self.check(("doubt", "not", ("not", IF)), IF, [("doubt", "if")])


class After(unittest.TestCase):
    """Each row: what stood, a move, a reply, and what stands behind it by each way in which books keep it."""

    def check(self, standing, move, reply, said, unanswered, used, fresh):
        for book in books_let_by():
            stood = (
                standing[0], standing[1],
                standing[2] if book.doubts == "once" else (),
                standing[3] if book.speaks == "last" else (),
            )
            if book.speaks == "last":
                way = "spoken"
            else:
                way = book.answers if book.answers == "last" else book.again
            expected = (
                said, unanswered[way],
                used if book.doubts == "once" else (),
                fresh if book.speaks == "last" else (),
            )
            with self.subTest(book=fields(book), move=move, reply=reply):
                self.assertEqual(after(book, stood, move, reply), expected)

    def test_at_the_begin(self):
        begin = ("begin", IF)
        made = (("if", IF),)
        self.check(
            start(IF), ("answer", begin, IF), ("doubt", "if"),
            said=(A,), unanswered={"spoken": made, "last": made, "once": made, "often": (begin,) + made}, used=(), fresh=(A,),
        )
        begin = ("begin", AND)
        for word in ("left", "right"):
            made = ((word, AND),)
            self.check(
                start(AND), ("answer", begin, AND), ("doubt", word),
                said=(), unanswered={"spoken": made, "last": made, "once": made, "often": (begin,) + made}, used=(), fresh=(),
            )
        begin = ("begin", ("not", AND))
        made = (("not", ("not", AND)),)
        self.check(
            start(("not", AND)), ("answer", begin, ("not", AND)), ("doubt", "not"),
            said=(AND,), unanswered={"spoken": made, "last": made, "once": made, "often": (begin,) + made}, used=(), fresh=(AND,),
        )

    later = (
        (AND, NOT, C),
        (("begin", IF), ("left", AND), ("which", OR)),
        (("right", AND), ("which", OR)),
        (NOT,),
    )

    def test_an_answer_and_a_doubt_that_says_nothing(self):
        made = (("right", AND),)
        move = ("answer", ("which", ("or", AND, A)), AND)
        stood = (self.later[0], (("begin", IF), ("which", ("or", AND, A)), ("which", OR)), self.later[2], self.later[3])
        self.check(
            stood, move, ("doubt", "right"),
            said=(AND, NOT, C),
            unanswered={
                "spoken": made, "last": made,
                "once": (("begin", IF), ("right", AND), ("which", OR)),
                "often": (("begin", IF), ("right", AND), ("which", ("or", AND, A)), ("which", OR)),
            },
            used=(("right", AND), ("which", OR)), fresh=(),
        )

    def test_an_answer_and_a_doubt_that_says_something_new(self):
        made = (("if", IF),)
        self.check(
            self.later, ("answer", ("begin", IF), IF), ("doubt", "if"),
            said=(AND, NOT, A, C),
            unanswered={
                "spoken": made, "last": made,
                "once": (("if", IF), ("left", AND), ("which", OR)),
                "often": (("begin", IF), ("if", IF), ("left", AND), ("which", OR)),
            },
            used=self.later[2], fresh=(A,),
        )

    def test_an_answer_and_a_doubt_that_says_what_was_said(self):
        says_c = ("if", C, A)
        stood = (self.later[0], (("begin", says_c), ("if", says_c)), (), (NOT,))
        self.check(
            stood, ("answer", ("begin", says_c), says_c), ("doubt", "if"),
            said=(AND, NOT, C),
            unanswered={
                "spoken": (("if", says_c),), "last": (("if", says_c),), "once": (("if", says_c),),
                "often": (("begin", says_c), ("if", says_c)),
            },
            used=(), fresh=(C,),
        )

    def test_a_doubt_and_an_answer(self):
        stays = self.later[1]
        unanswered = {"spoken": (), "last": stays, "once": stays, "often": stays}
        self.check(
            self.later, ("doubt", "left", AND), ("answer", A),
            said=(AND, NOT, A, C), unanswered=unanswered,
            used=(("left", AND), ("right", AND), ("which", OR)), fresh=(A,),
        )
        self.check(
            self.later, ("doubt", "right", AND), ("answer", B),
            said=(AND, NOT, B, C), unanswered=unanswered, used=(("right", AND), ("which", OR)), fresh=(B,),
        )
        self.check(
            self.later, ("doubt", "which", ("or", C, AND)), ("answer", C),
            said=(AND, NOT, C), unanswered=unanswered,
            used=(("right", AND), ("which", OR), ("which", ("or", C, AND))), fresh=(C,),
        )

    def test_a_doubt_that_is_doubted(self):
        hard = ("if", NOT, B)
        made = (("not", NOT),)
        stays = self.later[1]
        self.check(
            self.later, ("doubt", "if", hard), ("doubt", "not"),
            said=(AND, NOT, A, C),
            unanswered={
                "spoken": made, "last": made,
                "once": (("begin", IF), ("left", AND), ("not", NOT), ("which", OR)),
                "often": (("begin", IF), ("left", AND), ("not", NOT), ("which", OR)),
            },
            used=(("if", hard), ("right", AND), ("which", OR)), fresh=(A,),
        )
        self.check(
            self.later, ("doubt", "if", hard), ("answer", B),
            said=(AND, NOT, B, C), unanswered={"spoken": (), "last": stays, "once": stays, "often": stays},
            used=(("if", hard), ("right", AND), ("which", OR)), fresh=(B,),
        )
        hard = ("not", AND)
        made = (("left", AND),)
        self.check(
            self.later, ("doubt", "not", hard), ("doubt", "left"),
            said=(AND, NOT, C),
            unanswered={"spoken": made, "last": made, "once": stays, "often": stays},
            used=(("not", hard), ("right", AND), ("which", OR)), fresh=(),
        )

    def test_nothing_was_open(self):
        self.check(
            ((OR,), (), (), (OR,)), ("doubt", "which", OR), ("answer", B),
            said=(OR, B), unanswered={"spoken": (), "last": (), "once": (), "often": ()}, used=(("which", OR),), fresh=(B,),
        )


class Own(unittest.TestCase):
    def test_lists_told_are_the_askers_own(self):
        standing = ((AND, IF, A), (("begin", IF), ("which", OR)), (), (AND, IF))
        for book in books_let_by():
            kept = list(moves(book, standing))
            told = moves(book, standing)
            self.assertIsInstance(told, list)
            told.reverse()
            told.append("more")
            self.assertEqual(moves(book, standing), kept)
            for move in kept:
                kept_replies = list(replies(move))
                told = replies(move)
                self.assertIsInstance(told, list)
                told.clear()
                told.append("more")
                self.assertEqual(replies(move), kept_replies)
                for reply in kept_replies:
                    self.assertEqual(after(book, standing, move, reply), after(book, standing, move, reply))

    def test_books_stay_as_they_were_made(self):
        for book in books_let_by():
            kept = fields(book)
            for move in moves(book, start(IF)):
                for reply in replies(move):
                    moves(book, after(book, start(IF), move, reply))
            self.assertEqual(fields(book), kept)

    def test_a_book_that_is_changed_by_its_owner_changes_no_other(self):
        changed = strict()
        changed.speaks = "last"
        standing = ((AND,), (), (), ())
        self.assertEqual(moves(changed, standing), [])
        self.assertEqual(moves(strict(), standing), [("doubt", "left", AND), ("doubt", "right", AND)])
        self.assertEqual(moves(free(), standing), moves(Book("any", "often", "often", "any"), standing))


if __name__ == "__main__":
    unittest.main()
