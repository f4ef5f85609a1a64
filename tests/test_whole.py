"""What the document promises over the whole program: plans, papers, webs, rows of truth and talkers agree."""

import itertools
import random
import unittest

from helper import (
    A, B, books_let_by, fields, good_webs, is_always_true, is_true, plain_numbers, plan_with_detours, slow_bears, small_sayings, some_saying,
)
from talkcourt.books import free, no_more, strict
from talkcourt.errors import NoPlan
from talkcourt.judge import judged
from talkcourt.papers import checked, shown
from talkcourt.plans import cut, wins
from talkcourt.sayings import size
from talkcourt.sayread import read_saying
from talkcourt.showing import paper_of, plan_of
from talkcourt.standings import after, start
from talkcourt.talkers import always, met, play, program_of
from talkcourt.weaving import plan_by, truth_of, web_of
from talkcourt.webs import bears, checked_web, true_by

SAYINGS = small_sayings(6)
BY_STRICT = {saying: judged(strict(), saying) for saying in SAYINGS}
BY_FREE = {saying: judged(free(), saying) for saying in SAYINGS}


def put_in(saying, name, other):
    """A saying with another one in the place of a name."""
    if saying[0] == "say":
        return other if saying[1] == name else saying
    return saying[:1] + tuple(put_in(side, name, other) for side in saying[1:])


class ByTheStrictBook(unittest.TestCase):
    def test_just_one_of_paper_and_web(self):
        had = 0
        for saying, (side, plan, *_) in BY_STRICT.items():
            self.assertIs(wins(strict(), saying, side, plan), True)
            if side == "first":
                had += 1
                self.assertRaises(NoPlan, web_of, saying, plan)
                self.assertRaises(NoPlan, web_of, saying, ())
                paper = paper_of(saying, plan)
                self.assertTrue(checked(paper))
                self.assertEqual(shown(paper), saying)
                self.assertTrue(wins(strict(), saying, "first", plan_of(paper)))
            else:
                self.assertRaises(NoPlan, paper_of, saying, plan)
                self.assertRaises(NoPlan, paper_of, saying, ())
                web = web_of(saying, plan)
                self.assertTrue(checked_web(web))
                self.assertFalse(slow_bears(web, 0, saying))
                self.assertTrue(wins(strict(), saying, "other", plan_by(web, saying)))
        self.assertGreater(had, 50)

    def test_what_the_first_has_fails_in_no_small_web(self):
        webs = [web for many in (1, 2, 3) for web in good_webs(many)]
        for saying, told in BY_STRICT.items():
            if told[0] == "first":
                for web in webs:
                    self.assertTrue(bears(web, 0, saying), (saying, web))
                    self.assertEqual(self.refused_by(web, saying), NoPlan)

    def refused_by(self, web, saying):
        with self.assertRaises(NoPlan) as caught:
            plan_by(web, saying)
        return type(caught.exception)

    def test_or_and_and(self):
        for saying, told in BY_STRICT.items():
            if saying[0] in ("or", "and"):
                sides = [BY_STRICT[side][0] == "first" for side in saying[1:]]
                self.assertEqual(told[0] == "first", any(sides) if saying[0] == "or" else all(sides), saying)

    def test_another_saying_in_the_place_of_a_name(self):
        dice, many = random.Random(111), 0
        for saying, told in BY_STRICT.items():
            if told[0] == "first":
                for other in dice.sample(small_sayings(4), 4):
                    whole = put_in(saying, "a", other)
                    if size(whole) <= 11:
                        many += 1
                        side, plan = judged(strict(), whole)[:2]
                        self.assertEqual(side, "first", whole)
                        self.assertEqual(shown(paper_of(whole, plan)), whole)
        self.assertGreater(many, 100)

    def test_not_not_of_what_the_first_has_by_the_free_book(self):
        # An old law: what is always true is had by the strict book behind two nots.
        for saying in small_sayings(5):
            side = judged(strict(), ("not", ("not", saying)))[0]
            self.assertEqual(side, "first" if is_always_true(saying) else "other", saying)

    def test_at_the_bound(self):
        dice, sides = random.Random(112), {"first": 0, "other": 0}
        for _ in range(150):
            saying = some_saying(dice, 11, "ab")
            side, plan = judged(strict(), saying)[:2]
            sides[side] += 1
            if side == "first":
                self.assertEqual(shown(paper_of(saying, plan)), saying)
                self.assertTrue(checked(paper_of(saying, plan_of(paper_of(saying, plan)))))
            else:
                web = web_of(saying, plan)
                self.assertTrue(checked_web(web))
                self.assertFalse(bears(web, 0, saying))
                self.assertTrue(wins(strict(), saying, "other", plan_by(web, saying)))
        self.assertGreater(sides["first"], 5)


class ByTheFreeBook(unittest.TestCase):
    def test_against_all_rows_of_truth(self):
        rows = [row for many in range(3) for row in itertools.combinations("ab", many)]
        for saying, (side, plan, *_) in BY_FREE.items():
            self.assertIs(wins(free(), saying, side, plan), True)
            self.assertEqual(side == "first", all(true_by(row, saying) for row in rows), saying)
            self.assertEqual(side == "first", is_always_true(saying))
            if side == "first":
                self.assertRaises(NoPlan, truth_of, saying, plan)
            else:
                self.assertFalse(is_true(saying, truth_of(saying, plan)), saying)

    def test_what_the_strict_book_lets_the_free_one_lets(self):
        more = 0
        for saying in SAYINGS:
            if BY_STRICT[saying][0] == "first":
                self.assertEqual(BY_FREE[saying][0], "first")
                self.assertLessEqual(BY_FREE[saying][2], BY_STRICT[saying][2])
            else:
                more += BY_FREE[saying][0] == "first"
        self.assertGreater(more, 20)


class ByEveryBook(unittest.TestCase):
    def test_plans_cut_and_without_a_row(self):
        dice = random.Random(113)
        for saying in dice.sample(SAYINGS, 60) + [read_saying("not not (a or not a)"), read_saying("a or b then b or a")]:
            for book in books_let_by():
                side, plan = judged(book, saying)[:2]
                if side == "first":
                    plan = cut(book, saying, side, plan_with_detours(book, saying, dice))
                self.assertTrue(wins(book, saying, side, plan))
                for at in range(len(plan)):
                    self.assertFalse(wins(book, saying, side, plan[:at] + plan[at + 1:]), (fields(book), saying))

    def test_the_least_number_of_rounds(self):
        dice = random.Random(114)
        pairs = [(one, two) for one in books_let_by() for two in books_let_by() if no_more(one, two)]
        for saying in dice.sample(SAYINGS, 40):
            least = {fields(book): plain_numbers(book, saying)[start(saying)] for book in books_let_by()}
            for book in books_let_by():
                self.assertEqual((judged(book, saying) + (None,))[2], least[fields(book)])
            for one, two in pairs:
                if least[fields(one)] is not None:
                    self.assertLessEqual(least[fields(two)], least[fields(one)])

    def test_talkers_of_both_sides(self):
        dice = random.Random(115)
        lazy = ((("any",), ("move", 0)),)
        for saying in dice.sample(SAYINGS, 40):
            for book in books_let_by():
                side, plan = judged(book, saying)[:2]
                program = program_of(side, plan)
                self.assertEqual(always(book, saying, side, program), ("wins", plan))
                one, other = (program, lazy) if side == "first" else (lazy, program)
                winner, talk = play(book, saying, one, other)
                self.assertEqual(winner, side)
                # What is played is what the tables of both tell.
                tables = [{row[:-1]: row[-1] for row in met(book, saying, who, what)} for who, what in (("first", one), ("other", other))]
                self.walk(book, saying, talk, *tables)

    def walk(self, book, saying, talk, moves_told, replies_told):
        standing = start(saying)
        for move, reply in zip(talk[::2], talk[1::2]):
            self.assertEqual(moves_told[standing,], move)
            self.assertEqual(replies_told[standing, move], reply)
            standing = after(book, standing, move, reply)


class Asked(unittest.TestCase):
    def test_the_same_question_has_the_same_answer(self):
        dice = random.Random(116)
        questions = dice.sample(SAYINGS, 60)

        def ask(saying):
            side, plan = judged(strict(), saying)[:2]
            told = (plan, paper_of(saying, plan)) if side == "first" else (plan, web_of(saying, plan))
            by_free = judged(free(), saying)
            return told, by_free, truth_of(saying, by_free[1]) if by_free[0] == "other" else None

        answers = {saying: ask(saying) for saying in questions}
        for _ in range(2):
            dice.shuffle(questions)
            for saying in questions:
                self.assertEqual(ask(saying), answers[saying])

    def test_bare_ones(self):
        for saying in (A, B):
            for book in books_let_by():
                self.assertEqual(judged(book, saying), ("other", ()))
            self.assertEqual(web_of(saying, ()), (((), ()),))
            self.assertEqual(truth_of(saying, ()), ())


if __name__ == "__main__":
    unittest.main()
