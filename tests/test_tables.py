"""Tables: talks that are kept, their ends, what is refused, and what is taken back."""

import random
import unittest
from unittest import mock

from helper import (
    A, B, C, books_let_by, edge_sayings, fields, slow_after, slow_moves, slow_replies, slow_told, small_sayings,
)
from talkcourt.books import Book, free, strict
from talkcourt.errors import NoMove, TalkError
from talkcourt.sayread import read_saying
from talkcourt.tables import Table, play_all

AND, NOT = ("and", A, B), ("not", A)
SAME = read_saying("a then a")
BEGIN_SAME = ("answer", ("begin", SAME), SAME)
LEFT_AGAIN = read_saying("a and b then c")
# By books that let a doubt be made often: the first asks for the left side twice, and nothing new stands behind it.
CAME_AGAIN = [
    ("answer", ("begin", LEFT_AGAIN), LEFT_AGAIN), ("doubt", "if"),
    ("doubt", "left", AND), ("answer", A),
    ("doubt", "left", AND), ("answer", A),
]
OFTEN = [book for book in books_let_by() if book.doubts == "often" and book.speaks == "any"]


def slow_heard(move, reply):
    """What the other says by a reply."""
    if reply[0] == "answer":
        return [reply[1]]
    return [slow_told(move)[1]] if reply[1] in ("if", "not") else []


def slow_table(book, saying, steps):
    """All that a table tells of these steps, reckoned from the begin on."""
    stood = [((), (("begin", saying),), (), ())]
    said = {"first": [], "other": []}
    for number, step in enumerate(steps):
        if number % 2:
            stood.append(slow_after(book, stood[-1], steps[number - 1], step))
            said["other"] += slow_heard(steps[number - 1], step)
        elif slow_told(step):
            said["first"].append(slow_told(step))
    again = stood[-1] in stood[:-1]
    if len(steps) % 2:
        turn, won, can = "other", "first", slow_replies(steps[-1])
    else:
        turn, won, can = "first", "other", [] if again else slow_moves(book, stood[-1])
    return {
        "turn": turn, "can": can, "steps": list(steps), "first": said["first"], "other": said["other"],
        "standing": stood[-1], "came_again": again, "winner": None if can else won,
    }


def told_by_table(table):
    return {
        "turn": table.turn(), "can": table.can(), "steps": table.steps(), "first": table.said("first"),
        "other": table.said("other"), "standing": table.standing(), "came_again": table.came_again(),
        "winner": table.winner(),
    }


class TableTest(unittest.TestCase):
    def refused(self, table, step, number):
        """The step is refused with this number, and all is as it was."""
        ahead = told_by_table(table)
        with self.assertRaises(NoMove) as caught:
            table.do(step)
        self.assertEqual(caught.exception.number, number)
        self.assertIsInstance(caught.exception, TalkError)
        self.assertEqual(told_by_table(table), ahead)

    def ended(self, table, winner):
        """The talk is at its end: nothing may be said, whatever it is."""
        self.assertEqual(table.winner(), winner)
        self.assertEqual(table.can(), [])
        number = len(table.steps())
        self.assertEqual(table.turn(), ("first", "other")[number % 2])
        for step in table.steps() + [("doubt", "if"), ("doubt", "left", AND), ("answer", A), None]:
            self.refused(table, step, number)


class StepByStep(TableTest):
    def check_talk(self, book, saying, dice, most):
        """A talk by chance, looked at ahead of each step and at its end, then taken back to its begin."""
        table, steps = Table(book, saying), []
        told = told_by_table(table)
        while told["can"] and len(steps) < most:
            self.assertEqual(told, slow_table(book, saying, steps), (fields(book), steps))
            step = dice.choice(told["can"])
            self.assertIsNone(table.do(step))
            steps.append(step)
            told = told_by_table(table)
        self.assertEqual(told, slow_table(book, saying, steps), (fields(book), steps))
        self.assertEqual(told_by_table(play_all(book, saying, steps)), told)
        while steps:
            self.assertIsNone(table.back())
            steps.pop()
            self.assertEqual(told_by_table(table), slow_table(book, saying, steps), (fields(book), steps))
        with self.assertRaises(NoMove) as caught:
            table.back()
        self.assertEqual(caught.exception.number, 0)
        self.assertEqual(told_by_table(table), slow_table(book, saying, []))

    def test_small_sayings_by_every_book(self):
        dice = random.Random(1)
        for saying in small_sayings(5):
            for book in books_let_by():
                self.check_talk(book, saying, dice, 30)

    def test_greater_sayings_by_every_book(self):
        dice = random.Random(2)
        texts = (
            "not not (a or not a)", "(a then b) then (b then c) then a then c", "((a then b) then a) then a",
            "a and (b or c) then a and b or a and c", "not (a or b) then not a and not b", "not not not a then not a",
        )
        for text in texts:
            for book in books_let_by():
                for _ in range(3):
                    self.check_talk(book, read_saying(text), dice, 40)

    def test_sayings_at_the_bound(self):
        dice = random.Random(3)
        for saying in edge_sayings():
            for book in (strict(), free(), dice.choice(books_let_by())):
                self.check_talk(book, saying, dice, 24)

    def test_a_then_a(self):
        for book in books_let_by():
            table = Table(book, SAME)
            self.assertEqual(told_by_table(table), {
                "turn": "first", "can": [BEGIN_SAME], "steps": [], "first": [], "other": [],
                "standing": ((), (("begin", SAME),), (), ()), "came_again": False, "winner": None,
            })
            table.do(BEGIN_SAME)
            self.assertEqual(told_by_table(table), {
                "turn": "other", "can": [("doubt", "if")], "steps": [BEGIN_SAME], "first": [SAME], "other": [],
                "standing": ((), (("begin", SAME),), (), ()), "came_again": False, "winner": None,
            })
            table.do(("doubt", "if"))
            still_open = book.speaks == "any" and book.answers == "any" and book.again == "often"
            asked = (("begin", SAME), ("if", SAME)) if still_open else (("if", SAME),)
            standing = ((A,), asked, (), (A,) if book.speaks == "last" else ())
            last = ("answer", ("if", SAME), A)
            self.assertEqual(told_by_table(table), {
                "turn": "first", "can": [BEGIN_SAME, last] if still_open else [last],
                "steps": [BEGIN_SAME, ("doubt", "if")], "first": [SAME], "other": [A],
                "standing": standing, "came_again": False, "winner": None,
            })
            table.do(last)
            self.assertEqual(told_by_table(table), {
                "turn": "other", "can": [], "steps": [BEGIN_SAME, ("doubt", "if"), last], "first": [SAME, A],
                "other": [A], "standing": standing, "came_again": False, "winner": "first",
            })

    def test_said_in_order_and_as_often_as_it_was_said(self):
        nono = ("not", ("not", A))
        saying = ("if", ("not", nono), NOT)
        table = Table(free(), saying)
        begin = ("answer", ("begin", saying), saying)
        for step in [begin, ("doubt", "if"), ("doubt", "not", ("not", nono)), ("doubt", "not"), begin]:
            table.do(step)
        self.assertEqual(table.said("first"), [saying, nono, saying])
        self.assertEqual(table.said("other"), [("not", nono), NOT])
        table.do(("doubt", "if"))
        self.assertEqual(table.said("other"), [("not", nono), NOT, ("not", nono)])

    def test_a_doubt_that_says_nothing(self):
        table = play_all(strict(), LEFT_AGAIN, CAME_AGAIN)
        self.assertEqual(table.said("first"), [LEFT_AGAIN])
        self.assertEqual(table.said("other"), [AND, A, A])
        table = play_all(strict(), AND, [("answer", ("begin", AND), AND), ("doubt", "right")])
        self.assertEqual((table.said("first"), table.said("other")), ([AND], []))


class Ends(TableTest):
    def test_no_move_at_the_begin(self):
        for book in books_let_by():
            table = Table(book, A)
            self.ended(table, "other")
            self.assertEqual((table.said("first"), table.said("other")), ([], []))
            self.assertFalse(table.came_again())

    def test_no_move(self):
        for book in books_let_by():
            table = Table(book, ("and", A, A))
            table.do(("answer", ("begin", ("and", A, A)), ("and", A, A)))
            table.do(("doubt", "left"))
            if table.can():
                self.assertTrue(book.again == "often" and book.answers == "any" and book.speaks == "any")
            else:
                self.ended(table, "other")
                self.assertFalse(table.came_again())

    def test_no_reply(self):
        for book in books_let_by():
            self.ended(play_all(book, SAME, [BEGIN_SAME, ("doubt", "if"), ("answer", ("if", SAME), A)]), "first")

    def test_a_standing_that_comes_a_second_time(self):
        for book in OFTEN:
            table = Table(book, LEFT_AGAIN)
            for step in CAME_AGAIN:
                self.assertFalse(table.came_again())
                self.assertIsNone(table.winner())
                table.do(step)
            self.assertTrue(table.came_again())
            self.ended(table, "other")

    def test_a_standing_that_comes_again_but_not_straight_behind(self):
        saying = read_saying("not not a then not not b then c")
        nono = ("not", ("not", A))
        ask, no = ("doubt", "not", nono), ("doubt", "not")
        table = play_all(strict(), saying, [("answer", ("begin", saying), saying), ("doubt", "if")])
        table.do(("answer", ("if", saying), saying[2]))
        table.do(("doubt", "if"))
        for asked in (nono, ("not", ("not", B)), nono):
            table.do(("doubt", "not", asked))
            table.do(no)
        self.assertFalse(table.came_again())
        table.do(("doubt", "not", ("not", ("not", B))))
        table.do(no)
        self.assertTrue(table.came_again())
        self.ended(table, "other")
        table.back()
        self.assertFalse(table.came_again())
        self.assertEqual(table.can(), [no])
        table.back()
        table.do(ask)
        table.do(no)
        self.assertTrue(table.came_again())
        self.ended(table, "other")

    def test_taken_back_behind_an_end(self):
        for book in OFTEN:
            table = play_all(book, LEFT_AGAIN, CAME_AGAIN)
            self.assertIsNone(table.back())
            self.assertEqual((table.turn(), table.can(), table.winner()), ("other", [("answer", A)], None))
            self.assertFalse(table.came_again())
            table.do(("answer", A))
            self.ended(table, "other")
            table.back()
            table.back()
            self.assertIn(("doubt", "right", AND), table.can())
            table.do(("doubt", "right", AND))
            table.do(("answer", B))
            self.assertFalse(table.came_again())
            self.assertIsNone(table.winner())

    def test_the_last_move_taken_back(self):
        for book in books_let_by():
            last = ("answer", ("if", SAME), A)
            table = play_all(book, SAME, [BEGIN_SAME, ("doubt", "if"), last])
            table.back()
            self.assertEqual((table.turn(), table.winner()), ("first", None))
            self.assertIn(last, table.can())
            table.do(last)
            self.ended(table, "first")


class Refused(TableTest):
    def test_a_step_of_the_other_side(self):
        for book in books_let_by():
            table = Table(book, SAME)
            self.refused(table, ("doubt", "if"), 0)
            table.do(BEGIN_SAME)
            self.refused(table, BEGIN_SAME, 1)
            self.refused(table, ("answer", ("if", SAME), A), 1)
            table.do(("doubt", "if"))
            self.refused(table, ("doubt", "if"), 2)
            self.refused(table, ("answer", A), 2)

    def test_a_bare_saying_that_was_not_said(self):
        saying = read_saying("a then b")
        for book in books_let_by():
            table = play_all(book, saying, [("answer", ("begin", saying), saying), ("doubt", "if")])
            self.refused(table, ("answer", ("if", saying), B), 2)
        saying = read_saying("not a then b")
        for book in books_let_by():
            table = play_all(book, saying, [("answer", ("begin", saying), saying), ("doubt", "if")])
            self.refused(table, ("doubt", "not", NOT), 2)

    def test_an_answer_to_a_doubt_that_is_not_open(self):
        table = Table(strict(), SAME)
        self.refused(table, ("answer", ("if", SAME), A), 0)
        self.refused(table, ("answer", ("begin", NOT), NOT), 0)
        table = play_all(strict(), SAME, [BEGIN_SAME, ("doubt", "if")])
        self.refused(table, BEGIN_SAME, 2)

    def test_an_answer_that_answers_nothing(self):
        table = play_all(strict(), SAME, [BEGIN_SAME, ("doubt", "if")])
        self.refused(table, ("answer", ("if", SAME), SAME), 2)
        self.refused(table, ("answer", ("not", NOT), NOT), 2)

    def test_a_word_that_does_not_fit(self):
        table = Table(strict(), SAME)
        for word in ("left", "right", "which", "not"):
            self.refused(table, ("answer", (word, SAME), SAME), 0)
        table.do(BEGIN_SAME)
        for word in ("begin", "left", "right", "which", "not", "IF", "", "iff"):
            self.refused(table, ("doubt", word), 1)
        table.do(("doubt", "if"))
        for word in ("begin", "left", "if", "not"):
            self.refused(table, ("doubt", word, A), 2)

    def test_a_doubt_of_what_was_not_said(self):
        for book in books_let_by():
            table = play_all(book, LEFT_AGAIN, CAME_AGAIN[:2])
            self.refused(table, ("doubt", "left", ("and", A, C)), 2)
            self.refused(table, ("doubt", "if", LEFT_AGAIN), 2)

    def test_a_doubt_made_once(self):
        for book in books_let_by():
            if book.doubts == "once" and book.speaks == "any":
                self.refused(play_all(book, LEFT_AGAIN, CAME_AGAIN[:4]), ("doubt", "left", AND), 4)

    def test_things_that_are_no_steps(self):
        real = BEGIN_SAME
        things = [
            None, 0, 1, -1, True, False, "", "answer", b"answer", 1.5, [], (), {}, set(), object(), Table, len,
            list(real), [list(thing) for thing in real[1:]], real[:2], real + (A,), (real,), real[::-1], [real],
            ("answer", list(real[1]), SAME), ("answer", real[1], list(SAME)), ("answer", real[1], ["if", A, A]),
            ("answer", ("begin", SAME, SAME), SAME), ("answer", "begin", SAME), ("answer", ("begin",), SAME),
            ("answer", None, None), (None, real[1], SAME), (b"answer", real[1], SAME), ("ANSWER", real[1], SAME),
            mock.ANY, ("answer", mock.ANY, SAME), ("answer", ("begin", mock.ANY), SAME), (mock.ANY, mock.ANY, mock.ANY),
            ("answer", real[1], ("if", A, ("say", b"a"))), ("answer", real[1], ("if", A, "a")), {"answer": real},
        ]
        for thing in things:
            self.refused(Table(strict(), SAME), thing, 0)
            self.refused(play_all(strict(), SAME, [BEGIN_SAME]), thing, 1)
            self.refused(play_all(strict(), SAME, [BEGIN_SAME, ("doubt", "if")]), thing, 2)
        for thing in (["doubt", "if"], ("doubt", ["if"]), ("doubt", "if", SAME), ("doubt",), ("doubt", mock.ANY), "doubt if"):
            self.refused(play_all(strict(), SAME, [BEGIN_SAME]), thing, 1)

    def test_back_with_nothing_done(self):
        for saying in (A, SAME):
            table = Table(strict(), saying)
            for _ in range(2):
                with self.assertRaises(NoMove) as caught:
                    table.back()
                self.assertEqual(caught.exception.number, 0)
            self.assertEqual(told_by_table(table), slow_table(strict(), saying, []))


class PlayAll(TableTest):
    def test_the_first_step_that_can_not_be(self):
        good = [BEGIN_SAME, ("doubt", "if"), ("answer", ("if", SAME), A)]
        wrong = (None, ("doubt", "left"), ["doubt", "if"], ("answer", ("begin", NOT), NOT))
        for number in range(4):
            for thing in wrong:
                with self.assertRaises(NoMove) as caught:
                    play_all(strict(), SAME, good[:number] + [thing, thing] + good[number:])
                self.assertEqual(caught.exception.number, number)

    def test_no_steps(self):
        self.assertEqual(told_by_table(play_all(free(), SAME, [])), told_by_table(Table(free(), SAME)))

    def test_a_tuple_of_steps(self):
        self.assertEqual(play_all(strict(), LEFT_AGAIN, tuple(CAME_AGAIN)).steps(), CAME_AGAIN)

    def test_the_list_stays_and_is_not_kept(self):
        steps = list(CAME_AGAIN[:4])
        table = play_all(strict(), LEFT_AGAIN, steps)
        self.assertEqual(steps, CAME_AGAIN[:4])
        steps.append(("doubt", "left", AND))
        steps[0] = None
        self.assertEqual(told_by_table(table), slow_table(strict(), LEFT_AGAIN, CAME_AGAIN[:4]))
        table.back()
        self.assertEqual(len(steps), 5)

    def test_a_table_that_plays_on(self):
        table = play_all(strict(), LEFT_AGAIN, CAME_AGAIN[:4])
        for step in CAME_AGAIN[4:]:
            table.do(step)
        self.ended(table, "other")


class TheAskersOwn(TableTest):
    def test_lists_that_are_told(self):
        table = play_all(strict(), LEFT_AGAIN, CAME_AGAIN[:4])
        ahead = slow_table(strict(), LEFT_AGAIN, CAME_AGAIN[:4])
        for told in (table.can(), table.steps(), table.said("first"), table.said("other")):
            self.assertIsInstance(told, list)
            told.append(None)
            told[0] = None
        self.assertEqual(told_by_table(table), ahead)
        table.do(("doubt", "left", AND))
        can = table.can()
        can.clear()
        self.assertEqual(table.can(), [("answer", A)])

    def test_a_list_that_was_told_ahead(self):
        table = Table(strict(), SAME)
        steps, said = table.steps(), table.said("first")
        table.do(BEGIN_SAME)
        self.assertEqual((steps, said), ([], []))

    def test_two_tables_beside_one_another(self):
        book = strict()
        one, two = Table(book, SAME), Table(book, SAME)
        one.do(BEGIN_SAME)
        self.assertEqual(told_by_table(two), slow_table(book, SAME, []))
        two.do(BEGIN_SAME)
        one.do(("doubt", "if"))
        self.assertEqual(told_by_table(two), slow_table(book, SAME, [BEGIN_SAME]))
        two.back()
        self.assertEqual(told_by_table(one), slow_table(book, SAME, [BEGIN_SAME, ("doubt", "if")]))

    def test_the_book_that_was_handed_in(self):
        book = Book("last", "once", "often", "any")
        table = play_all(book, LEFT_AGAIN, CAME_AGAIN[:4])
        self.assertEqual(fields(book), fields(strict()))
        book.doubts, book.speaks = "once", "last"
        self.assertEqual(told_by_table(table), slow_table(strict(), LEFT_AGAIN, CAME_AGAIN[:4]))
        table.do(("doubt", "left", AND))


if __name__ == "__main__":
    unittest.main()
