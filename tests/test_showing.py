"""Strict plans of the first as papers, and papers as plans."""

import random
import unittest

from helper import A, B, plain_wins, plan_with_detours, small_sayings, some_saying
from test_papers import AHEAD, WHYS, good_papers, row
from talkcourt.books import free, strict
from talkcourt.errors import NoPaper, NoPlan, TalkError
from talkcourt.judge import judged
from talkcourt.papers import checked, shown
from talkcourt.papertexts import read_paper, show_paper
from talkcourt.plans import cut, wins
from talkcourt.sayings import size
from talkcourt.sayread import read_saying
from talkcourt.showing import paper_of, plan_of
from talkcourt.standings import start

AND, OR, IF, Z = ("and", A, B), ("or", A, B), ("if", A, B), ("say", "z")
HAD = (
    "a then a", "not not (a or not a)", "not (a and not a)", "a and (a then b) then b", "a or b then b or a", "a then b then b and a",
    "a and b then b and a", "(a then b) then (b then c) then a then c", "not (a or b) then not a and not b", "a or a then a",
    "a and (b or c) then b or a and c", "(a then b) then not b then not a", "not a then a then b", "not not not a then not a",
    "a and not a then b", "a then b or a", "(a or b then c) then a then c", "a or not a then not not a then a", "not not a and not a then b",
)


def had():
    """Sayings that the first has by the strict book, small ones, known ones and such by chance."""
    dice = random.Random(61)
    every = small_sayings(5) + [some_saying(dice, many, "ab") for many in (7, 8, 9, 10, 11) for _ in range(60)]
    return [read_saying(text) for text in HAD] + [saying for saying in every if judged(strict(), saying)[0] == "first"]


class PaperOf(unittest.TestCase):
    def check(self, saying, plan):
        paper = paper_of(saying, plan)
        self.assertIsInstance(paper, tuple)
        self.assertIs(checked(paper), True, saying)
        self.assertEqual(paper[-1][:2], ((), saying))
        self.assertEqual(shown(paper), saying)
        self.assertEqual(repr(read_paper(show_paper(paper))), repr(paper))
        self.assertEqual(paper_of(saying, plan), paper)
        return paper

    def refused(self, saying, plan):
        with self.assertRaises(NoPlan, msg=repr((saying, plan))) as caught:
            paper_of(saying, plan)
        self.assertIsInstance(caught.exception, TalkError)

    def test_plans_that_are_judged(self):
        for saying in had():
            self.check(saying, judged(strict(), saying)[1])

    def test_other_plans(self):
        dice, whys = random.Random(62), set()
        for saying in had():
            for _ in range(4):
                plan = plan_with_detours(strict(), saying, dice)
                whys |= {why for _, _, why, _ in self.check(saying, plan)}
                whys |= {why for _, _, why, _ in self.check(saying, cut(strict(), saying, "first", plan))}
        self.assertEqual(whys, set(WHYS))

    def test_rows_that_are_not_come_to(self):
        for text in HAD:
            saying = read_saying(text)
            plan = judged(strict(), saying)[1]
            more = (start(("not", saying)), ("doubt", "left", A)), (start(A), ("answer", ("begin", A), A))
            paper = self.check(saying, tuple(sorted(plan + more)))
            self.assertEqual(paper, paper_of(saying, plan))

    def test_by_hand(self):
        saying = ("if", A, A)
        self.assertEqual(self.check(saying, judged(strict(), saying)[1]), (row([A], A, "given"), row([], saying, "then", 0)))

    def test_a_plan_that_does_not_win(self):
        for text in HAD:
            saying = read_saying(text)
            plan = judged(strict(), saying)[1]
            self.refused(saying, ())
            if len(plan) > 1:
                self.refused(saying, plan[::-1])
            for at, (standing, move) in enumerate(plan):
                self.refused(saying, plan[:at] + plan[at + 1:])
                self.refused(saying, plan[:at + 1] + plan[at:])
                for wrong in (("answer", ("begin", Z), Z), ("doubt", "not", ("not", Z)), ("answer", move[1], Z)):
                    self.refused(saying, plan[:at] + ((standing, wrong),) + plan[at + 1:])
                self.refused(saying, tuple(sorted(plan + ((standing, ("answer", ("begin", Z), Z)),))))

    def test_a_plan_that_leads_round(self):
        saying = ("if", AND, A)
        plan = judged(strict(), saying)[1]
        self.check(saying, plan)
        behind = ((AND,), (("if", saying),), (), ())
        both = ((AND, B), (("if", saying),), (), ())
        rows = dict(plan)
        rows[behind] = rows[both] = ("doubt", "right", AND)
        self.refused(saying, tuple(sorted(rows.items())))

    def test_a_plan_for_another_saying(self):
        plans = {text: judged(strict(), read_saying(text))[1] for text in HAD}
        for text in HAD:
            for other in HAD:
                if other != text:
                    self.refused(read_saying(other), plans[text])
            self.refused(("not", read_saying(text)), plans[text])

    def test_a_plan_by_another_book(self):
        saying = read_saying("a or not a")
        self.refused(saying, judged(free(), saying)[1])


def drawn_paper(dice, many):
    """A good paper of so many rows by chance, with detours and rows that nothing needs."""
    paper = [row([saying], saying, "given") for saying in dice.sample(small_sayings(4), 5)]
    while len(paper) < many:
        i, j, k = (dice.randrange(len(paper)) for _ in range(3))
        (one, says, _, _), (two, tells, _, _), (three, ends, _, _) = paper[i], paper[j], paper[k]
        one, two, three = set(one), set(two), set(three)
        sort = says and says[0]
        can = [(one, dice.choice(sorted(one)), "given")] if one else []
        if says and tells and size(says) + size(tells) < 8:
            can.append((one | two, ("and", says, tells), "both", i, j))
            can.extend([(one, ("or", says, tells), "one", i), (one, ("or", tells, says), "two", i)])
        if sort == "and":
            can.extend([(one, says[1], "left", i), (one, says[2], "right", i)] * 3)
        if sort == "or" and tells == ends:
            can.extend([(one | two - {says[1]} | three - {says[2]}, ends, "cases", i, j, k)] * 8)
        if sort == "if" and tells == says[1]:
            can.extend([(one | two, says[2], "use", i, j)] * 8)
        if sort == "not" and tells == says[1]:
            can.extend([(one | two, None, "clash", i, j)] * 8)
        for gone in sorted(one):
            if says and size(gone) + size(says) < 11:
                can.extend([(one - {gone}, ("if", gone, says), "then", i)] * 2)
            if not says and size(gone) < 11:
                can.extend([(one - {gone}, ("not", gone), "not", i)] * 4)
        if not says:
            can.extend([(one, dice.choice(small_sayings(3)), "all", i)] * 6)
        if says:
            can.append((one | two - {says}, tells, "put", i, j))
        if can:
            given, *rest = dice.choice(can)
            if dice.random() < 0.1:
                given = set(given) | {dice.choice(small_sayings(2))}
            if len(given) <= 12:
                paper.append(row(given, *rest))
    return tuple(paper)


def needed_whys(paper, at):
    """The whys of a row and of all that it needs."""
    return {paper[at][2]}.union(*(needed_whys(paper, number) for number in set(paper[at][3])))


class PlanOf(unittest.TestCase):
    def check(self, paper):
        saying = shown(paper)
        plan = plan_of(paper)
        self.assertIsInstance(plan, tuple)
        self.assertIs(wins(strict(), saying, "first", plan), True, saying)
        self.assertTrue(plain_wins(strict(), saying, "first", plan))
        self.assertEqual(plan_of(paper), plan)
        return plan

    def refused(self, paper, row_number=None):
        with self.assertRaises(TalkError, msg=repr(paper)) as caught:
            plan_of(paper)
        if row_number is None:
            self.assertIsInstance(caught.exception, NoPlan)
        else:
            self.assertIsInstance(caught.exception, NoPaper)
            self.assertEqual(caught.exception.row, row_number)

    def test_drawn_papers(self):
        dice, whys, many = random.Random(63), set(), 0
        for _ in range(60):
            paper = drawn_paper(dice, 60)
            self.assertIs(checked(paper), True)
            for at, (given, said, _, _) in enumerate(paper):
                if given == () and said and size(said) <= 11:
                    self.check(paper[:at + 1])
                    whys |= needed_whys(paper, at)
                    many += 1
                elif at % 10 == 0:
                    self.refused(paper[:at + 1])
        self.assertGreater(many, 200)
        self.assertEqual(whys, set(WHYS))

    def test_rows_that_nothing_needs(self):
        needed = (row([A], A, "given"), row([], ("if", A, A), "then", 0))
        for more in list(good_papers().values()) + [AHEAD]:
            moved = tuple((given, said, why, tuple(number + 1 for number in above)) for given, said, why, above in more)
            paper = needed[:1] + moved + needed[1:]
            self.assertEqual(self.check(paper), plan_of(needed))

    def test_with_detours(self):
        for text in (
            # Out of a and (a then a), by use; the same by put; an or made and taken apart again; nonsense made and left.
            "0. {a} so {a} by given\n1. so {a then a} by then 0\n2. {a} so {a} by use 1 0\n3. so {a then a} by then 2",
            "0. {a} so {a} by given\n1. {a} so {a} by put 0 0\n2. {a} so {a} by put 1 1\n3. so {a then a} by then 2",
            "0. {a} so {a} by given\n1. {a} so {a or a} by two 0\n2. {a} so {a} by cases 1 0 0\n3. so {a then a} by then 2",
            "0. {a} so {a} by given\n1. {a} so {a and a} by both 0 0\n2. {a} so {a} by right 1\n3. so {a then a} by then 2",
            "0. {not a} {a} so {not a} by given\n1. {a} so {a} by given\n2. {not a} {a} so nonsense by clash 0 1\n"
            "3. {not a} {a} so {b} by all 2\n4. {a} so {not a then b} by then 3\n5. so {a then not a then b} by then 4",
        ):
            self.check(read_paper(text))

    def test_plans_into_papers_and_back(self):
        for saying in had():
            plan = judged(strict(), saying)[1]
            self.check(paper_of(saying, self.check(paper_of(saying, plan))))

    def test_something_is_given_in_the_last_row(self):
        for paper in list(good_papers().values()) + [AHEAD]:
            if paper[-1][0]:
                self.refused(paper)
        self.refused((row([A], A, "given"), row([B], ("if", A, A), "then", 0)))

    def test_nonsense_is_said(self):
        self.refused(AHEAD[:8])

    def test_a_paper_that_is_not_good(self):
        self.refused((), 0)
        self.refused((row([], A, "given"),), 0)
        self.refused((row([], A, "given"), row([], OR, "one", 0)), 0)
        # Nothing is shown either; the row that isn't good is told ahead of that.
        self.refused(AHEAD + (row([A], B, "given"),), len(AHEAD))
        self.refused(AHEAD + (row([], None, "clash", 6, 0),), len(AHEAD))
        self.refused((row([A], A, "given"), row([], ("if", A, A), "then", 1)), 1)
        self.refused((row([A], A, "given"), row([], IF, "then", 0), row([], ("if", A, A), "then", 0)), 1)

    def test_what_is_handed_in_stays(self):
        for text in HAD:
            saying = read_saying(text)
            plan = judged(strict(), saying)[1]
            ahead = repr((saying, plan))
            paper = paper_of(saying, plan)
            self.assertEqual(repr((saying, plan)), ahead)
            ahead = repr(paper)
            plan_of(paper)
            self.assertEqual(repr(paper), ahead)


if __name__ == "__main__":
    unittest.main()
