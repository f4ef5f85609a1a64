"""Plans further: lasting rows, how many talks go by a plan, plans put into one another."""

import random
import unittest

from helper import (
    A, B, books_let_by, fields, plain_graph, plan_with_detours, rows_by_place, sayings_of_size, small_sayings,
    walked_talks,
)
from talkcourt.books import free, strict
from talkcourt.errors import NoPlan, TalkError
from talkcourt.further import lasting, many_talks, put
from talkcourt.judge import judged
from talkcourt.plans import cut, wins
from talkcourt.sayings import size
from talkcourt.sayread import read_saying
from talkcourt.standings import start

TEXTS = (
    "not not (a or not a)", "a and (a then b) then b", "a or b then b or a", "a and b then b and a", "a then b then b and a",
    "not (a and not a or b)", "a or not a", "not not a then a", "((a then b) then a) then a", "(a then b) or (b then a)",
)
SAYINGS = small_sayings(4) + sayings_of_size(5, ("a",)) + [read_saying(text) for text in TEXTS]


class Lasting(unittest.TestCase):
    def check(self, book, saying, number):
        rows = lasting(book, saying)
        where = (fields(book), saying)
        self.assertIsInstance(rows, tuple)
        self.assertEqual(list(rows), sorted(rows))
        graph, told = plain_graph(book, saying), rows_by_place(rows)
        come_to, at = [start(saying)], 0
        rounds = {start(saying): 0}
        won = []
        # Round by round, so a standing is met by the shortest way to it.
        while at < len(come_to):
            standing = come_to[at]
            for move, back in graph[standing].items():
                if not back:
                    self.assertNotIn((standing, move), told)
                    won.append(rounds[standing] + 1)
                    continue
                behind = back[told.pop((standing, move))]
                if behind not in rounds:
                    rounds[behind] = rounds[standing] + 1
                    come_to.append(behind)
            at += 1
        self.assertEqual(told, {}, where)
        self.assertEqual(min(won), number, where)

    def test_by_every_book(self):
        had = 0
        for saying in SAYINGS:
            for book in books_let_by():
                told = judged(book, saying)
                if told[0] == "first":
                    had += 1
                    self.check(book, saying, told[2])
                    self.assertEqual(lasting(book, saying), lasting(book, saying))
                else:
                    with self.assertRaises(NoPlan) as caught:
                        lasting(book, saying)
                    self.assertIsInstance(caught.exception, TalkError)
        self.assertGreater(had, 200)

    def test_at_the_strict_bound(self):
        for text in ("(a then b) then (b then c) then a then c", "not (a or b) then not a and not b"):
            saying = read_saying(text)
            self.check(strict(), saying, judged(strict(), saying)[2])

    def test_by_hand(self):
        saying = ("if", A, A)
        self.assertEqual(lasting(strict(), saying), ((start(saying), ("answer", ("begin", saying), saying), ("doubt", "if")),))
        with self.assertRaises(NoPlan):
            lasting(strict(), A)


class ManyTalks(unittest.TestCase):
    def refused(self, book, saying, plan):
        with self.assertRaises(NoPlan) as caught:
            many_talks(book, saying, plan)
        self.assertIsInstance(caught.exception, TalkError)

    def test_against_a_plain_count(self):
        dice, most = random.Random(7), 0
        for saying in SAYINGS:
            for book in books_let_by():
                side, plan = judged(book, saying)[:2]
                if side == "other":
                    self.refused(book, saying, ())
                    continue
                for told in (plan, plan_with_detours(book, saying, dice), plan_with_detours(book, saying, dice)):
                    talks = [steps for steps, _, _ in walked_talks(book, saying, side, rows_by_place(told))]
                    self.assertEqual(len(talks), len(set(talks)))
                    self.assertEqual(many_talks(book, saying, told), len(talks), (fields(book), saying))
                    most = max(most, len(talks))
        self.assertGreater(most, 1)

    def test_against_a_plain_count_at_the_strict_bound(self):
        dice, found = random.Random(10), set()
        for text in ("a then (a and a) and (a and a)", "a or b then (b or a) and (a or b)", "a and b or b then b and (b or a)"):
            saying = read_saying(text)
            for _ in range(20):
                plan = plan_with_detours(strict(), saying, dice)
                talks = list(walked_talks(strict(), saying, "first", rows_by_place(plan)))
                self.assertEqual(many_talks(strict(), saying, plan), len(talks))
                found.add(len(talks))
        self.assertGreater(max(found), 3)

    def test_by_hand(self):
        for text, many in (
            ("a then a", 1), ("a then a and a", 2), ("a then a and (a and a)", 3), ("a then (a and a) and (a and a)", 4),
            ("a then not not a and not not a", 2), ("a or a then a", 1), ("a or b then b or a", 2), ("not (a and not a)", 1),
        ):
            saying = read_saying(text)
            self.assertEqual(many_talks(strict(), saying, judged(strict(), saying)[1]), many, text)

    def test_rows_that_are_not_come_to(self):
        saying = read_saying("a or b then b or a")
        more = ((start(A), ("answer", ("begin", A), A)),)
        self.assertEqual(many_talks(strict(), saying, tuple(sorted(judged(strict(), saying)[1] + more))), 2)

    def test_more_talks_than_could_be_walked(self):
        # Each and is asked for by either side, so every storey has twice the talks of the one below, and two standings.
        saying, storeys = A, 11
        for _ in range(storeys):
            saying = ("and", saying, saying)
        saying = ("if", A, saying)
        plan = [(start(saying), ("answer", ("begin", saying), saying))]
        asked, answer = [("if", saying)], saying[2]
        while asked:
            plan.extend((((A,), (doubt,), (), ()), ("answer", doubt, answer)) for doubt in asked)
            asked = [] if answer == A else [("left", answer), ("right", answer)]
            answer = answer[1]
        self.assertEqual(many_talks(strict(), saying, tuple(sorted(plan))), 2 ** storeys)

    def test_a_plan_that_does_not_win(self):
        for text in TEXTS[:6]:
            for book in (strict(), free()):
                saying = read_saying(text)
                plan = judged(book, saying)[1]
                for at in range(len(plan)):
                    self.refused(book, saying, plan[:at] + plan[at + 1:])
                    self.refused(book, saying, plan[:at + 1] + plan[at:])
                self.refused(book, saying, plan[::-1])
                self.refused(book, ("not", saying), plan)
        self.refused(strict(), A, ())


class Put(unittest.TestCase):
    def refused(self, *things):
        with self.assertRaises(NoPlan) as caught:
            put(*things)
        self.assertIsInstance(caught.exception, TalkError)

    def plan(self, book, saying):
        told = judged(book, saying)
        self.assertEqual(told[0], "first", saying)
        return told[1]

    def check(self, book, one, other):
        told = put(book, one, self.plan(book, one), other, self.plan(book, other))
        self.assertIs(wins(book, other[2], "first", told), True, (fields(book), one, other))
        self.assertEqual(cut(book, other[2], "first", told), told)
        return told

    def test_small_sayings(self):
        for book, bound in ((strict(), 11), (free(), 8)):
            had = [saying for saying in small_sayings(5) if judged(book, saying)[0] == "first"]
            many = 0
            for one in had:
                for two in had:
                    if size(("if", one, two)) <= bound:
                        self.check(book, one, ("if", one, two))
                        many += 1
            self.assertGreater(many, 10)

    def test_nothing_more_is_had(self):
        for book in (strict(), free()):
            had = [saying for saying in small_sayings(4) if judged(book, saying)[0] == "first"]
            for one in had[:4]:
                for two in small_sayings(3):
                    if judged(book, ("if", one, two))[0] == "first":
                        self.check(book, one, ("if", one, two))

    def test_sayings_that_need_one_another(self):
        one = read_saying("a then a")
        self.check(strict(), one, ("if", one, read_saying("not not (b then b)")))
        one = read_saying("not (a and not a)")
        self.check(strict(), one, ("if", one, read_saying("b then b or a")))
        one = read_saying("a or not a")
        self.check(free(), one, ("if", one, read_saying("not a or a")))

    def test_put_one_behind_another(self):
        one, two, three = read_saying("a then a"), read_saying("b then b"), read_saying("not not (b then b)")
        for book in (strict(), free()):
            told = put(book, one, self.plan(book, one), ("if", one, two), self.plan(book, ("if", one, two)))
            told = put(book, two, told, ("if", two, three), self.plan(book, ("if", two, three)))
            self.assertIs(wins(book, three, "first", told), True)
            on = ("if", one, ("if", two, one))
            told = put(book, one, self.plan(book, one), on, self.plan(book, on))
            told = put(book, two, self.plan(book, two), on[2], told)
            self.assertIs(wins(book, one, "first", told), True)

    def test_rows_that_are_not_come_to(self):
        one, two = read_saying("a then a"), read_saying("b then b")
        more = ((start(A), ("answer", ("begin", A), A)),)
        for book in (strict(), free()):
            plan = tuple(sorted(self.plan(book, one) + more))
            self.assertTrue(wins(book, two, "first", put(book, one, plan, ("if", one, two), self.plan(book, ("if", one, two)))))

    def test_plans_with_detours(self):
        dice = random.Random(8)
        one, two = read_saying("a then a"), read_saying("not not (b then b)")
        for book in (strict(), free()):
            for _ in range(10):
                plans = [plan_with_detours(book, saying, dice) for saying in (one, ("if", one, two))]
                self.assertTrue(wins(book, two, "first", put(book, one, plans[0], ("if", one, two), plans[1])))

    def test_another_saying(self):
        one, two = read_saying("a then a"), read_saying("b then b")
        both = ("and", one, two)
        for book in (strict(), free()):
            plans = {saying: self.plan(book, saying) for saying in (one, two, ("if", one, two), ("if", two, one), both)}
            self.refused(book, one, plans[one], ("if", two, one), plans["if", two, one])
            self.refused(book, one, plans[one], one, plans[one])
            self.refused(book, one, plans[one], two, plans[two])
            self.refused(book, one, plans[one], both, plans[both])
            self.refused(book, one, plans[two], ("if", one, two), plans["if", one, two])
            self.refused(book, one, plans[one], ("if", one, two), plans["if", two, one])
            self.refused(book, one, plans[one], A, ())
            self.refused(book, one, plans[one], ("not", one), ())

    def test_a_plan_that_does_not_win(self):
        one, two = read_saying("a then a"), read_saying("b then b")
        on = ("if", one, two)
        for book in (strict(), free()):
            good, better = self.plan(book, one), self.plan(book, on)
            for at in range(len(good)):
                self.refused(book, one, good[:at] + good[at + 1:], on, better)
            for at in range(len(better)):
                self.refused(book, one, good, on, better[:at] + better[at + 1:])
            self.refused(book, one, good[::-1], on, better)
            self.refused(book, one, good, on, better[::-1])
            self.refused(book, one, good, on, ())
            self.refused(book, one, (), on, better)
            self.refused(book, A, (), ("if", A, A), self.plan(book, ("if", A, A)))
            self.refused(book, one, good, ("if", one, B), ())


if __name__ == "__main__":
    unittest.main()
