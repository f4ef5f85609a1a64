"""Reached standings and their numbers, against plain walks and a plain reckoning."""

import time
import unittest

from helper import (
    A, B, books_let_by, fields, plain_graph, plain_numbers, sayings_of_size, slow_after, slow_moves, slow_replies,
    small_sayings,
)
from talkcourt.books import free, strict
from talkcourt.numbers import numbers
from talkcourt.reached import reached
from talkcourt.sayread import read_saying
from talkcourt.standings import start

# Among those with the most standings, or the most rounds, by some book.
AT_THE_BOUND = (
    "not (not (a and not b and c))", "(not a and b) and (c and b)", "not (not a and not d then f)",
    "not (a and c and (b and d))", "not not (a or not a) then b", "(a or b) and not a then b", "not not not not not not not a",
)
AT_THE_STRICT_BOUND = (
    "not not (not (f and d) and not (b or e))", "not (not a and (not c and not b) then d)",
    "(a or b) and not a then b or c or b", "not (a or b) then not a and not b", "not not (a or not a) and not not b",
    "(a then b) then (b then c) then a then c", "not not not not not not not not not not a",
)


def all_talks_stand_at(book, saying):
    """The standings of all talks, walked one by one, each to its end."""
    found, waiting = set(), [(start(saying),)]
    while waiting:
        stood = waiting.pop()
        found.add(stood[-1])
        if stood[-1] in stood[:-1]:
            continue
        for move in slow_moves(book, stood[-1]):
            for reply in slow_replies(move):
                waiting.append(stood + (slow_after(book, stood[-1], move, reply),))
    return sorted(found)


class Reached(unittest.TestCase):
    def test_against_all_talks(self):
        for saying in small_sayings(4) + sayings_of_size(5, ("a",)):
            for book in books_let_by():
                self.assertEqual(reached(book, saying), all_talks_stand_at(book, saying), (fields(book), saying))

    def test_against_a_plain_walk(self):
        for saying in small_sayings(5) + [read_saying(text) for text in AT_THE_BOUND]:
            for book in books_let_by():
                found = reached(book, saying)
                self.assertEqual(found, sorted(plain_graph(book, saying)), (fields(book), saying))
                self.assertEqual(len(found), len(set(found)))

    def test_a_bare_saying(self):
        for book in books_let_by():
            self.assertEqual(reached(book, A), [((), (("begin", A),), (), ())])

    def test_by_hand(self):
        saying = ("if", A, ("or", A, B))
        begin, which = ("begin", saying), ("which", ("or", A, B))
        self.assertEqual(reached(strict(), saying), [
            ((), (begin,), (), ()),
            ((A,), (("if", saying),), (), ()),
            ((A,), (which,), (), ()),
        ])
        self.assertEqual(reached(free(), saying), [
            ((), (begin,), (), ()),
            ((A,), (begin, ("if", saying)), (), ()),
            ((A,), (begin, ("if", saying), which), (), ()),
        ])

    def test_the_list_is_the_askers_own(self):
        found = reached(strict(), ("not", A))
        self.assertIsInstance(found, list)
        ahead = list(found)
        found.clear()
        self.assertEqual(reached(strict(), ("not", A)), ahead)

    def test_at_the_strict_bound(self):
        for text in AT_THE_STRICT_BOUND:
            saying = read_saying(text)
            self.assertEqual(reached(strict(), saying), sorted(plain_graph(strict(), saying)))


class Numbers(unittest.TestCase):
    def check(self, book, saying):
        told = numbers(book, saying)
        self.assertIsInstance(told, list)
        self.assertEqual(told, sorted(plain_numbers(book, saying).items(), key=lambda pair: pair[0]), (fields(book), saying))
        self.assertEqual([standing for standing, _ in told], reached(book, saying))

    def begin(self, book, text):
        saying = read_saying(text)
        return dict(numbers(book, saying))[start(saying)]

    def test_small_sayings_by_every_book(self):
        for saying in small_sayings(5):
            for book in books_let_by():
                self.check(book, saying)

    def test_at_the_bound(self):
        ahead = time.process_time()
        for text in AT_THE_BOUND:
            for book in books_let_by():
                self.check(book, read_saying(text))
        for text in AT_THE_STRICT_BOUND:
            self.check(strict(), read_saying(text))
        self.assertLess(time.process_time() - ahead, 60)

    def test_by_hand(self):
        saying = ("if", A, ("or", A, B))
        self.assertEqual(numbers(strict(), saying), [
            (((), (("begin", saying),), (), ()), 3),
            (((A,), (("if", saying),), (), ()), 2),
            (((A,), (("which", ("or", A, B)),), (), ()), 1),
        ])
        self.assertEqual(numbers(strict(), A), [(((), (("begin", A),), (), ()), None)])

    def test_numbers_of_begins(self):
        for book in books_let_by():
            self.assertEqual(self.begin(book, "a then a"), 2)
            self.assertEqual(self.begin(book, "a then b then a"), 3)
            self.assertEqual(self.begin(book, "a then not not a"), 3)
            self.assertIsNone(self.begin(book, "a"))
            self.assertIsNone(self.begin(book, "a then b"))
            self.assertIsNone(self.begin(book, "a or b"))
        self.assertIsNone(self.begin(strict(), "a or not a"))
        self.assertEqual(self.begin(free(), "a or not a"), 3)
        self.assertIsNone(self.begin(strict(), "not not a then a"))
        self.assertEqual(self.begin(free(), "not not a then a"), 3)
        self.assertIsNone(self.begin(strict(), "((a then b) then a) then a"))
        self.assertEqual(self.begin(free(), "((a then b) then a) then a"), 3)

    def test_a_standing_that_is_won_though_the_begin_is_lost(self):
        saying = read_saying("a or b then a")
        told = dict(numbers(strict(), saying))
        self.assertIsNone(told[start(saying)])
        self.assertEqual(told[(saying[1], A), (("if", saying),), (), ()], 1)
        self.assertIsNone(told[(saying[1], B), (("if", saying),), (), ()])

    def test_the_list_is_the_askers_own(self):
        told = numbers(strict(), ("not", A))
        ahead = list(told)
        told.clear()
        self.assertEqual(numbers(strict(), ("not", A)), ahead)


if __name__ == "__main__":
    unittest.main()
