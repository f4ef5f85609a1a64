"""Plans of the other as webs and rows of truth, and webs as plans."""

import random
import unittest

from helper import (
    A, B, drawn_plan_of_other, good_webs, is_true, plain_wins, sayings_of_size, slow_bears, small_sayings, some_saying,
)
from talkcourt.books import free, strict
from talkcourt.errors import NoPlan, NoWeb, TalkError
from talkcourt.judge import judged
from talkcourt.plans import cut, wins
from talkcourt.sayings import names_in
from talkcourt.sayread import read_saying
from talkcourt.standings import start
from talkcourt.weaving import plan_by, truth_of, web_of
from talkcourt.webs import bears, checked_web, fails, true_by
from talkcourt.webtexts import read_web, show_web

Z = ("say", "z")
# The other has these by the strict book; those of the second row by the free one, too.
BY_STRICT = (
    "a or not a", "not not a then a", "((a then b) then a) then a", "(a then b) or (b then a)", "not a or not not a", "not (a and b) then not a or not b",
    "(a then b) then not a or b", "(not a then b or c) then (not a then b) or (not a then c)",
)
BY_BOTH = (
    "a", "not a", "a then b", "a or b", "a and b", "a then b then c", "not (a or b)", "a or b then a", "(a then b) then a", "not not (a and b)",
    "not (a and b)", "a and b then c", "not a then b", "a and not a",
)


def known():
    return [read_saying(text) for text in BY_STRICT + BY_BOTH]


def drawn_sayings(seed, sizes, names):
    dice = random.Random(seed)
    return [some_saying(dice, many, names) for many in sizes for _ in range(30)]


class WebOf(unittest.TestCase):
    def check(self, saying, plan):
        web = web_of(saying, plan)
        self.assertIsInstance(web, tuple)
        self.assertIs(checked_web(web), True, (saying, web))
        self.assertIs(bears(web, 0, saying), False, (saying, web))
        self.assertFalse(slow_bears(web, 0, saying))
        self.assertIn(0, fails(web, saying))
        self.assertEqual(repr(read_web(show_web(web))), repr(web))
        self.assertEqual(web_of(saying, plan), web)
        return web

    def refused(self, saying, plan):
        with self.assertRaises(NoPlan, msg=repr((saying, plan))) as caught:
            web_of(saying, plan)
        self.assertIsInstance(caught.exception, TalkError)

    def test_plans_that_are_judged(self):
        for saying in known() + small_sayings(5) + drawn_sayings(91, (7, 8, 9, 10, 11), "abc"):
            side, plan = judged(strict(), saying)[:2]
            if side == "other":
                self.check(saying, plan)
            else:
                self.refused(saying, plan)
                self.refused(saying, ())

    def test_other_plans(self):
        dice, webs = random.Random(92), 0
        for saying in known() + drawn_sayings(93, (6, 8, 10, 11), "ab"):
            if judged(strict(), saying)[0] == "other":
                found = set()
                for _ in range(4):
                    plan = drawn_plan_of_other(strict(), saying, dice)
                    found.add(self.check(saying, plan))
                    self.assertEqual(self.check(saying, cut(strict(), saying, "other", plan)), web_of(saying, plan))
                webs += len(found) > 1
        self.assertGreater(webs, 5)

    def test_rows_that_are_not_come_to(self):
        for saying in known():
            plan = judged(strict(), saying)[1]
            more = ((start(("not", Z)), ("answer", ("begin", Z), Z), ("doubt", "left")), (start(Z), ("doubt", "if", Z), ("answer", Z)))
            self.assertEqual(self.check(saying, tuple(sorted(plan + more))), web_of(saying, plan))

    def test_by_hand(self):
        self.assertEqual(web_of(A, ()), (((), ()),))
        self.assertEqual(web_of(("not", A), judged(strict(), ("not", A))[1]), (((), (1,)), (("a",), ())))
        saying = read_saying("a or not a")
        self.assertEqual(web_of(saying, judged(strict(), saying)[1]), (((), (1,)), (("a",), ())))

    def test_a_plan_that_does_not_win(self):
        for saying in known():
            plan = judged(strict(), saying)[1]
            if len(plan) > 1:
                self.refused(saying, plan[::-1])
            for at, (standing, move, _) in enumerate(plan):
                self.refused(saying, plan[:at] + plan[at + 1:])
                self.refused(saying, plan[:at + 1] + plan[at:])
                for wrong in (("answer", Z), ("doubt", "begin")):
                    self.refused(saying, plan[:at] + ((standing, move, wrong),) + plan[at + 1:])

    def test_a_plan_for_another_saying(self):
        for saying in known():
            for other in known():
                plan = judged(strict(), saying)[1]
                if other != saying and other[0] != "say":
                    self.refused(other, plan)

    def test_a_plan_by_another_book(self):
        saying = read_saying("not (a and b)")
        plan = judged(free(), saying)[1]
        self.assertFalse(wins(strict(), saying, "other", plan))
        self.refused(saying, plan)


class PlanBy(unittest.TestCase):
    def check(self, web, saying):
        plan = plan_by(web, saying)
        self.assertIsInstance(plan, tuple)
        self.assertIs(wins(strict(), saying, "other", plan), True, (web, saying))
        self.assertTrue(plain_wins(strict(), saying, "other", plan))
        self.assertEqual(plan_by(web, saying), plan)
        return plan

    def refused(self, web, saying, world=None):
        with self.assertRaises(TalkError, msg=repr((web, saying))) as caught:
            plan_by(web, saying)
        if world is None:
            self.assertIsInstance(caught.exception, NoPlan)
        else:
            self.assertIsInstance(caught.exception, NoWeb)
            self.assertEqual(caught.exception.world, world)

    def test_small_webs(self):
        dice = random.Random(94)
        for many in (1, 2, 3):
            for web in good_webs(many):
                for saying in dice.sample(small_sayings(5), 6) + [read_saying(text) for text in dice.sample(BY_STRICT, 2)]:
                    if any(not slow_bears(web, world, saying) for world in range(many)):
                        self.check(web, saying)
                    else:
                        self.refused(web, saying)

    def test_it_fails_in_a_later_world_alone(self):
        saying = read_saying("a then b")
        web = ((("b",), ()), (("a",), ()))
        self.assertEqual(fails(web, saying), [1])
        self.check(web, saying)

    def test_plans_into_webs_and_back(self):
        for saying in known() + small_sayings(4) + drawn_sayings(95, (9, 11), "ab"):
            side, plan = judged(strict(), saying)[:2]
            if side == "other":
                self.check(web_of(saying, self.check(web_of(saying, plan), saying)), saying)

    def test_a_saying_that_does_not_fail(self):
        for web in ((((), ()),), (((), (1,)), (("a",), ())), ((("a", "b"), ()),)):
            self.refused(web, ("if", A, A))
            self.refused(web, read_saying("not not (a or not a)"))
        self.refused(((("a",), ()),), A)
        self.refused((((), ()),), read_saying("a or not a"))

    def test_a_web_that_is_not_good(self):
        for saying in (A, ("if", A, A), ("if", A, B)):
            self.refused((), saying, 0)
            self.refused(((("b", "a"), ()),), saying, 0)
            self.refused((((), (1,)), ((), (1,))), saying, 1)
            self.refused(((("a",), (1,)), ((), ())), saying, 0)
            self.refused((((), ()), ((), (2,))), saying, 1)
            self.refused((((), (1,)), ((), (2,)), ((), ())), saying, 0)


class TruthOf(unittest.TestCase):
    def check(self, saying, plan):
        names = truth_of(saying, plan)
        self.assertIsInstance(names, tuple)
        self.assertEqual(list(names), sorted(set(names)))
        self.assertLessEqual(set(names), set(names_in(saying)))
        self.assertIs(true_by(names, saying), False, (saying, names))
        self.assertFalse(is_true(saying, names))
        self.assertEqual(truth_of(saying, plan), names)
        return names

    def refused(self, saying, plan):
        with self.assertRaises(NoPlan, msg=repr((saying, plan))) as caught:
            truth_of(saying, plan)
        self.assertIsInstance(caught.exception, TalkError)

    def test_plans_that_are_judged(self):
        for saying in [read_saying(text) for text in BY_BOTH] + small_sayings(5) + drawn_sayings(96, (6, 7, 8), "abc"):
            side, plan = judged(free(), saying)[:2]
            if side == "other":
                self.check(saying, plan)
            else:
                self.refused(saying, plan)
                self.refused(saying, ())

    def test_other_plans(self):
        dice, several = random.Random(97), 0
        for saying in [read_saying(text) for text in BY_BOTH] + sayings_of_size(5)[::3] + drawn_sayings(98, (7, 8), "ab"):
            if judged(free(), saying)[0] == "other":
                found = set()
                for _ in range(4):
                    plan = drawn_plan_of_other(free(), saying, dice)
                    found.add(self.check(saying, plan))
                    self.assertEqual(self.check(saying, cut(free(), saying, "other", plan)), truth_of(saying, plan))
                several += len(found) > 1
        self.assertGreater(several, 5)

    def test_by_hand(self):
        for text, names in (("a", ()), ("not a", ("a",)), ("a then b", ("a",)), ("not (a and b)", ("a", "b")), ("a or b", ())):
            saying = read_saying(text)
            self.assertEqual(truth_of(saying, judged(free(), saying)[1]), names)

    def test_rows_that_are_not_come_to(self):
        for text in BY_BOTH:
            saying = read_saying(text)
            plan = judged(free(), saying)[1]
            more = ((start(Z), ("doubt", "if", Z), ("answer", Z)),)
            self.assertEqual(self.check(saying, tuple(sorted(plan + more))), truth_of(saying, plan))

    def test_a_plan_that_does_not_win(self):
        for text in BY_BOTH:
            saying = read_saying(text)
            plan = judged(free(), saying)[1]
            if len(plan) > 1:
                self.refused(saying, plan[::-1])
            for at, (standing, move, _) in enumerate(plan):
                self.refused(saying, plan[:at] + plan[at + 1:])
                self.refused(saying, plan[:at + 1] + plan[at:])
                self.refused(saying, plan[:at] + ((standing, move, ("answer", Z)),) + plan[at + 1:])

    def test_a_plan_for_another_saying_or_by_another_book(self):
        for text in BY_BOTH:
            for other in BY_BOTH + BY_STRICT[:5]:
                if other not in (text, "a"):
                    self.refused(read_saying(other), judged(free(), read_saying(text))[1])
        for text in BY_STRICT[:5]:
            self.refused(read_saying(text), judged(strict(), read_saying(text))[1])
        saying = read_saying("not (a and b)")
        self.refused(saying, judged(strict(), saying)[1])


class HandedIn(unittest.TestCase):
    def test_what_is_handed_in_stays(self):
        for text in BY_BOTH:
            saying = read_saying(text)
            plan, by_free = judged(strict(), saying)[1], judged(free(), saying)[1]
            web = web_of(saying, plan)
            ahead = repr((saying, plan, by_free, web))
            truth_of(saying, by_free)
            plan_by(web, saying)
            fails(web, saying)
            self.assertEqual(repr((saying, plan, by_free, web)), ahead)


if __name__ == "__main__":
    unittest.main()
