"""Judging: one side has the saying, its plan wins, and the first's wins within the least number of rounds."""

import random
import time
import unittest

from helper import (
    A, B, all_books, books_let_by, fields, is_always_true, plain_numbers, plain_places, plain_wins, rows_by_place,
    sayings_of_size, small_sayings, some_saying, walked_talks,
)
from talkcourt.books import free, let_by, no_more, strict
from talkcourt.errors import NotLet, TalkError
from talkcourt.judge import judged
from talkcourt.numbers import numbers
from talkcourt.plans import cut, wins
from talkcourt.sayings import size
from talkcourt.sayread import read_saying
from talkcourt.standings import start

AT_THE_BOUND = (
    "not not (a or not a)", "((a then b) then a) then a", "not (a and not a or b)", "a and (a then b) then b",
    "not (not a and b and a)", "a or b then b or a", "(a then b) or (b then a)", "a then b then b and a",
)
AT_THE_STRICT_BOUND = (
    "(a then b) then (b then c) then a then c", "not (a or b) then not a and not b", "not not (a or not a) and not not b",
    "a and (b or c) then b or a and c", "(a then b) then not b then not a", "not not (not (f and d) and not (b or e))",
)


class Judged(unittest.TestCase):
    def check(self, book, saying):
        """All that is promised of what is told; the number of the begin is told back."""
        told = judged(book, saying)
        where = (fields(book), saying)
        self.assertIsInstance(told, tuple)
        side, plan = told[:2]
        self.assertIsInstance(plan, tuple)
        begin = dict(numbers(book, saying))[start(saying)]
        self.assertEqual(begin, plain_numbers(book, saying)[start(saying)], where)
        self.assertEqual(told, ("other", plan) if begin is None else ("first", plan, begin), where)
        self.assertTrue(plain_wins(book, saying, side, plan), where)
        self.assertIs(wins(book, saying, side, plan), True)
        self.assertEqual([row[:-1] for row in plan], plain_places(book, saying, side, plan), where)
        self.assertEqual(cut(book, saying, side, plan), plan)
        if begin is not None:
            talks = walked_talks(book, saying, side, rows_by_place(plan))
            self.assertEqual(max(len(steps[::2]) for steps, _, _ in talks), begin, where)
        return begin

    def test_small_sayings_by_every_book(self):
        for saying in small_sayings(4) + sayings_of_size(5, ("a",)):
            for book in books_let_by():
                self.check(book, saying)

    def test_at_the_bound(self):
        ahead = time.process_time()
        for text in AT_THE_BOUND:
            saying = read_saying(text)
            self.assertLessEqual(size(saying), 8)
            for book in books_let_by():
                self.check(book, saying)
        for text in AT_THE_STRICT_BOUND:
            self.assertLessEqual(size(read_saying(text)), 11)
            self.check(strict(), read_saying(text))
        self.assertLess(time.process_time() - ahead, 60)

    def test_sayings_by_chance(self):
        dice = random.Random(6)
        for _ in range(40):
            self.check(strict(), some_saying(dice, 11, "ab"))
            self.check(dice.choice(books_let_by()), some_saying(dice, 8, "ab"))

    def test_by_hand(self):
        saying = ("if", A, A)
        self.assertEqual(judged(strict(), saying), ("first", (
            (start(saying), ("answer", ("begin", saying), saying)),
            (((A,), (("if", saying),), (), ()), ("answer", ("if", saying), A)),
        ), 2))
        saying = ("if", A, B)
        self.assertEqual(judged(strict(), saying), ("other", (
            (start(saying), ("answer", ("begin", saying), saying), ("doubt", "if")),
        )))
        for book in books_let_by():
            self.assertEqual(judged(book, A), ("other", ()))

    def test_who_has_it(self):
        for text, by_strict, by_free in (
            ("a or not a", "other", "first"), ("not not (a or not a)", "first", "first"), ("not not a then a", "other", "first"),
            ("a then not not a", "first", "first"), ("((a then b) then a) then a", "other", "first"), ("a", "other", "other"),
            ("a and not a", "other", "other"), ("not (a and not a)", "first", "first"), ("a or b then a", "other", "other"),
            ("(a then b) or (b then a)", "other", "first"), ("not not not a then not a", "first", "first"),
        ):
            self.assertEqual(judged(strict(), read_saying(text))[0], by_strict, text)
            self.assertEqual(judged(free(), read_saying(text))[0], by_free, text)

    def test_by_the_free_book_the_first_has_what_is_always_true(self):
        for saying in small_sayings(5) + sayings_of_size(6, ("a",)):
            self.assertEqual(judged(free(), saying)[0], "first" if is_always_true(saying) else "other", saying)

    def test_the_same_question(self):
        for text in AT_THE_BOUND:
            for book in books_let_by():
                ahead = fields(book)
                self.assertEqual(judged(book, read_saying(text)), judged(book, read_saying(text)))
                self.assertEqual(fields(book), ahead)


class NotLetBy(unittest.TestCase):
    def test_refused(self):
        for book in all_books():
            for saying in (A, ("if", A, A), ("or", A, ("not", A))):
                if let_by(book):
                    self.assertIn(judged(book, saying)[0], ("first", "other"))
                    continue
                with self.assertRaises(NotLet) as caught:
                    judged(book, saying)
                self.assertIsInstance(caught.exception, TalkError)
                self.assertIsInstance(caught.exception, ValueError)


class MoreFreedom(unittest.TestCase):
    def test_no_saying_and_no_round_is_lost(self):
        pairs = [(one, two) for one in books_let_by() for two in books_let_by() if no_more(one, two)]
        gained = 0
        sayings = small_sayings(5) + [read_saying(text) for text in AT_THE_BOUND]
        for saying in sayings:
            told = {fields(book): judged(book, saying) for book in books_let_by()}
            for one, two in pairs:
                narrow, wide = told[fields(one)], told[fields(two)]
                if narrow[0] == "first":
                    self.assertEqual(wide[0], "first", (fields(one), fields(two), saying))
                    self.assertLessEqual(wide[2], narrow[2], (fields(one), fields(two), saying))
                gained += narrow[0] != wide[0]
        self.assertGreater(gained, 0)


if __name__ == "__main__":
    unittest.main()
