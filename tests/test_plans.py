"""Plans: whether they win, and what is left of them when they are cut."""

import itertools
import random
import unittest

from helper import (
    A, B, C, books_let_by, fields, plain_graph, plain_places, plain_wins, plan_with_detours, rows_by_place, sayings_of_size,
    small_sayings,
)
from talkcourt.books import free, strict
from talkcourt.errors import NoPlan, TalkError
from talkcourt.judge import judged
from talkcourt.plans import cut, wins
from talkcourt.sayread import read_saying
from talkcourt.standings import start

SAME = ("if", A, A)
BEGIN = ("answer", ("begin", SAME), SAME)
SAME_PLAN = (
    (start(SAME), BEGIN),
    (((A,), (("if", SAME),), (), ()), ("answer", ("if", SAME), A)),
)
# Forms of moves and replies that can't be anywhere below: words that don't fit, answers that answer nothing.
WRONG_MOVES = [
    ("doubt", "left", A), ("doubt", "if", ("not", A)), ("doubt", "begin", A), ("answer", ("left", A), A),
    ("answer", ("not", ("not", A)), A), ("answer", ("which", ("and", A, B)), A), ("answer", ("begin", C), C),
    ("answer", ("if", ("if", A, B)), C),
]
WRONG_REPLIES = [("doubt", "begin"), ("answer", C), ("answer", ("not", C)), ("doubt", "which"), ("doubt", "left")]
TEXTS = (
    "a then not not a", "a and b then b and a", "not not (a or not a)", "a or b then b or a", "not (a or b) then not a",
    "a or not a", "a then b", "not not a then a", "((a then b) then a) then a", "a and (a then b) then b", "(a or b) and c",
)


class PlanTest(unittest.TestCase):
    def check(self, book, saying, side, plan):
        """wins and cut tell what walking every talk tells."""
        expected = plain_wins(book, saying, side, plan)
        self.assertIs(wins(book, saying, side, plan), expected, (fields(book), saying, side, plan))
        if expected:
            places = plain_places(book, saying, side, plan)
            left = cut(book, saying, side, plan)
            self.assertIsInstance(left, tuple)
            self.assertEqual(left, tuple(row for row in plan if row[:-1] in places))
            self.assertEqual([row[:-1] for row in left], places)
        else:
            with self.assertRaises(NoPlan) as caught:
                cut(book, saying, side, plan)
            self.assertIsInstance(caught.exception, TalkError)
        return expected


class Wins(PlanTest):
    def test_by_hand(self):
        self.assertIs(wins(strict(), SAME, "first", SAME_PLAN), True)
        self.assertIs(wins(strict(), SAME, "first", SAME_PLAN[:1]), False)
        self.assertIs(wins(strict(), SAME, "first", SAME_PLAN[1:]), False)
        self.assertIs(wins(strict(), SAME, "first", SAME_PLAN[::-1]), False)
        self.assertIs(wins(strict(), SAME, "other", ()), False)
        self.assertIs(wins(free(), SAME, "first", SAME_PLAN), False)
        saying = ("if", A, B)
        row = (start(saying), ("answer", ("begin", saying), saying), ("doubt", "if"))
        self.assertIs(wins(strict(), saying, "other", (row,)), True)
        self.assertIs(wins(strict(), saying, "other", ()), False)
        self.assertIs(wins(strict(), saying, "first", SAME_PLAN), False)

    def test_the_plan_without_rows(self):
        for saying in small_sayings(3):
            for book in books_let_by():
                self.assertIs(wins(book, saying, "first", ()), False)
                self.assertIs(wins(book, saying, "other", ()), saying[0] == "say")

    def test_a_talk_that_comes_round_again(self):
        saying = read_saying("a and b then a")
        asked, begin, both = ("if", saying), ("begin", saying), saying[1]
        said_nothing = ((both,), (asked,), (), ())
        said_it = ((both, A), (asked,), (), ())
        round_again = (
            (start(saying), ("answer", begin, saying)),
            (said_nothing, ("doubt", "left", both)),
            (said_it, ("doubt", "left", both)),
        )
        self.assertIs(wins(strict(), saying, "first", round_again), False)
        self.assertIs(wins(strict(), saying, "first", round_again[:2] + ((said_it, ("answer", asked, A)),)), True)
        # The other wins where the first comes round again, so its plan may do so.
        saying = read_saying("a and b then c")
        self.assertEqual(judged(strict(), saying)[0], "other")
        self.check(strict(), saying, "other", judged(strict(), saying)[1])

    def test_every_plan_of_the_first(self):
        for book in books_let_by():
            for saying in small_sayings(3, ("a",)) + [("if", A, B), ("or", A, ("not", A))]:
                graph = plain_graph(book, saying)
                if len(graph) > 6:
                    continue
                places = [[None] + list(graph[standing]) for standing in sorted(graph)]
                for picked in itertools.product(*places):
                    rows = zip(sorted(graph), picked)
                    self.check(book, saying, "first", tuple(row for row in rows if row[1] is not None))

    def test_every_plan_of_the_other(self):
        for book in books_let_by():
            for saying in small_sayings(4, ("a",)) + [("if", A, B), ("or", A, ("not", A))]:
                graph = plain_graph(book, saying)
                places = sorted((standing, move) for standing in graph for move in graph[standing])
                if len(places) > 6:
                    continue
                choices = [[None] + list(graph[standing][move]) for standing, move in places]
                for picked in itertools.product(*choices):
                    rows = [place + (reply,) for place, reply in zip(places, picked) if reply is not None]
                    self.check(book, saying, "other", tuple(rows))

    def test_plans_that_were_told(self):
        for saying in small_sayings(4) + sayings_of_size(5, ("a",)) + [read_saying(text) for text in TEXTS]:
            for book in books_let_by():
                side, plan = judged(book, saying)[:2]
                self.assertTrue(self.check(book, saying, side, plan))
                self.assertEqual(cut(book, saying, side, plan), plan)
                loser = {"first": "other", "other": "first"}[side]
                self.assertIs(wins(book, saying, loser, ()), False)

    def test_plans_with_detours(self):
        dice = random.Random(9)
        longer = 0
        for text in TEXTS:
            for book in books_let_by():
                saying = read_saying(text)
                told = judged(book, saying)
                for _ in range(4 if told[0] == "first" else 0):
                    plan = plan_with_detours(book, saying, dice)
                    self.assertTrue(self.check(book, saying, "first", plan))
                    longer += len(cut(book, saying, "first", plan)) > len(told[1])
        self.assertGreater(longer, 20)


class Changed(PlanTest):
    def told(self):
        """Plans by every book, with their sides."""
        for text in TEXTS:
            for book in books_let_by():
                saying = read_saying(text)
                side, plan = judged(book, saying)[:2]
                yield book, saying, side, plan

    def test_a_row_left_out(self):
        for book, saying, side, plan in self.told():
            for at in range(len(plan)):
                self.assertFalse(self.check(book, saying, side, plan[:at] + plan[at + 1:]))

    def test_a_row_put_twice(self):
        for book, saying, side, plan in self.told():
            for at in range(len(plan)):
                self.assertFalse(self.check(book, saying, side, plan[:at + 1] + plan[at:]))

    def test_a_row_exchanged(self):
        lost = kept = 0
        for book, saying, side, plan in self.told():
            graph = plain_graph(book, saying)
            for at, row in enumerate(plan):
                can = list(graph[row[0]]) if side == "first" else list(graph[row[0]][row[1]])
                for step in can + (WRONG_MOVES if side == "first" else WRONG_REPLIES):
                    won = self.check(book, saying, side, plan[:at] + (row[:-1] + (step,),) + plan[at + 1:])
                    lost += not won
                    kept += won
                    if step not in can:
                        self.assertFalse(won)
        self.assertGreater(min(lost, kept), 100)

    def test_not_sorted(self):
        for book, saying, side, plan in self.told():
            if len(plan) > 1:
                self.assertFalse(self.check(book, saying, side, plan[::-1]))
                self.assertFalse(self.check(book, saying, side, plan[1:] + plan[:1]))

    def test_two_rows_for_one(self):
        for book, saying, side, plan in self.told():
            wrong = WRONG_MOVES[0] if side == "first" else WRONG_REPLIES[0]
            for row in plan:
                self.assertFalse(self.check(book, saying, side, tuple(sorted(plan + (row[:-1] + (wrong,),)))))

    def test_rows_that_are_not_come_to(self):
        for book, saying, side, plan in self.told():
            rows = rows_by_place(plan)
            graph = plain_graph(book, saying)
            if side == "first":
                more = [(standing, WRONG_MOVES[0]) for standing in graph if (standing,) not in rows]
                more.append((start(C), ("answer", ("begin", C), C)))
            else:
                more = [(standing, move, ("answer", C)) for standing in graph for move in graph[standing]]
                more += [(standing, move, ("answer", C)) for standing in graph for move in WRONG_MOVES]
                more = [row for row in more if row[:-1] not in rows]
                more.append((start(C), WRONG_MOVES[0], ("answer", C)))
            more = sorted(set(more))
            greater = tuple(sorted(plan + tuple(more)))
            self.assertTrue(self.check(book, saying, side, greater))
            self.assertEqual(cut(book, saying, side, greater), plan)
            self.assertFalse(wins(book, saying, side, tuple(sorted(greater + (more[0],)))))
            self.assertFalse(wins(book, saying, side, greater[::-1]))
            if side == "first":
                other_way = tuple(sorted(more + [(more[0][0], WRONG_MOVES[1])] + list(plan)))
                self.assertFalse(wins(book, saying, side, other_way))

    def test_for_another_saying_or_the_other_side(self):
        for book, saying, side, plan in self.told():
            self.assertFalse(wins(book, ("not", ("and", saying, saying)), side, plan))
            loser = {"first": "other", "other": "first"}[side]
            self.assertFalse(wins(book, saying, loser, ()))

    def test_what_is_handed_in_stays(self):
        for book, saying, side, plan in self.told():
            ahead = (fields(book), tuple(plan))
            self.assertIs(wins(book, saying, side, plan), wins(book, saying, side, plan))
            self.assertEqual(cut(book, saying, side, plan), cut(book, saying, side, plan))
            self.assertEqual((fields(book), plan), ahead)


class Cut(PlanTest):
    def test_by_hand(self):
        not_come_to = ((("not", A), A), (), (), ())
        more = tuple(sorted(SAME_PLAN + ((not_come_to, ("doubt", "not", ("not", A))),)))
        self.assertEqual(cut(strict(), SAME, "first", more), SAME_PLAN)
        for plan in ((), SAME_PLAN[:1], SAME_PLAN[::-1], SAME_PLAN + SAME_PLAN[1:]):
            with self.assertRaises(NoPlan):
                cut(strict(), SAME, "first", plan)
        self.assertEqual(cut(strict(), A, "other", ()), ())
        with self.assertRaises(NoPlan):
            cut(strict(), A, "first", ())


if __name__ == "__main__":
    unittest.main()
