"""Moves, replies and what stands behind them, against a slow reckoning with sets."""

import random
import unittest

from helper import A, B, C, books_let_by, slow_after, slow_doubts, slow_moves, slow_replies, small_sayings
from talkcourt.sayings import parts_of
from talkcourt.standings import after, moves, replies, start

NOT, AND, OR, IF = ("not", A), ("and", A, B), ("or", A, B), ("if", A, B)
MOST_STANDINGS = 150


def any_standings(book, parts, many):
    """So many standings of these parts, whether or not a talk comes to them; the same ones every time."""
    dice = random.Random(many)
    doubts = list(slow_doubts(parts))
    asked = doubts + [("begin", part) for part in parts]
    for _ in range(many):
        said = dice.sample(parts, dice.randint(0, len(parts)))
        unanswered = dice.sample(asked, dice.randint(0, min(4, len(asked))))
        used = dice.sample(doubts, dice.randint(0, len(doubts))) if book.doubts == "once" else []
        fresh = dice.sample(said, dice.randint(0, len(said))) if book.speaks == "last" else []
        yield tuple(tuple(sorted(field)) for field in (said, unanswered, used, fresh))


class Against(unittest.TestCase):
    def compare(self, book, standing):
        """Compares all at one standing, and tells the standings behind it."""
        found = moves(book, standing)
        self.assertEqual(found, slow_moves(book, standing))
        behind = []
        for move in found:
            said_back = replies(move)
            self.assertEqual(said_back, slow_replies(move))
            for reply in said_back:
                told = after(book, standing, move, reply)
                self.assertEqual(told, slow_after(book, standing, move, reply))
                for field in told:
                    self.assertIsInstance(field, tuple)
                    self.assertEqual(list(field), sorted(set(field)))
                behind.append(told)
        return behind

    def test_standings_that_talks_come_to(self):
        for saying in small_sayings(5, ("a",)) + small_sayings(4):
            for book in books_let_by():
                seen, waiting = {start(saying)}, [start(saying)]
                while waiting and len(seen) < MOST_STANDINGS:
                    for told in self.compare(book, waiting.pop(0)):
                        if told not in seen:
                            seen.add(told)
                            waiting.append(told)

    def test_standings_that_no_talk_comes_to(self):
        wholes = (
            ("if", ("and", A, B), ("or", NOT, B)),
            ("or", ("if", NOT, ("or", A, A)), ("not", ("and", B, C))),
            ("not", ("if", ("not", NOT), ("and", ("or", A, B), IF))),
            ("and", ("or", AND, AND), ("if", ("or", C, IF), NOT)),
        )
        for whole in wholes:
            for book in books_let_by():
                for standing in any_standings(book, parts_of(whole), 60):
                    self.compare(book, standing)


if __name__ == "__main__":
    unittest.main()
