"""Webs of worlds and rows of truth: which are good, what a world bears, where a saying fails."""

import itertools
import random
import time
import unittest

from helper import A, B, C, edge_sayings, good_webs, is_true, slow_bears, small_sayings, some_saying
from talkcourt.errors import NoWeb, TalkError
from talkcourt.sayings import names_in
from talkcourt.webs import bears, checked_web, fails, true_by

AND, OR, IF, NOT = ("and", A, B), ("or", A, B), ("if", A, B), ("not", A)
# World 0 with 1 and 2 behind it, each with 3 behind it.
DIAMOND = (((), (1, 2, 3)), (("a",), (3,)), (("b",), (3,)), (("a", "b", "c"), ()))
FORK = (((), (1, 2)), (("a",), ()), ((), ()))


def slow_first_wrong(web):
    """The number of the first world that isn't good, by the words of the promise, or None."""
    for at, (names, later) in enumerate(web):
        good = list(names) == sorted(set(names)) and list(later) == sorted(set(later))
        good = good and all(at < other < len(web) for other in later)
        if not good or any(not set(web[j][1]) <= set(later) or not set(names) <= set(web[j][0]) for j in later):
            return at
    return None


class CheckedWeb(unittest.TestCase):
    def good(self, web):
        self.assertIs(checked_web(web), True, web)

    def wrong(self, web, world):
        with self.assertRaises(NoWeb, msg=repr(web)) as caught:
            checked_web(web)
        self.assertEqual(caught.exception.world, world, repr(web))
        self.assertIsInstance(caught.exception, TalkError)
        self.assertIsInstance(caught.exception, ValueError)

    def test_good_ones(self):
        for web in (
            DIAMOND, FORK, (((), ()),), ((("a",), ()),), ((("a", "b"), ()), ((), ())), (((), (1,)), ((), ())), (((), (2,)), (("z",), ()), ((), ())),
        ):
            self.good(web)
        for many in (1, 2, 3):
            for web in good_webs(many):
                self.good(web)

    def test_twelve_worlds(self):
        names = ("a", "b", "c", "d", "e", "f", "g", "h")
        chain = tuple((names[:min(at, 8)], tuple(range(at + 1, 12))) for at in range(12))
        self.good(chain)
        for at in range(10):
            self.wrong(chain[:at] + ((chain[at][0], chain[at][1][:-1]),) + chain[at + 1:], at)
        self.wrong(chain[:11] + ((names[:7], ()),), 8)

    def test_names(self):
        for names in (("b", "a"), ("a", "a"), ("a", "b", "b"), ("a", "c", "b"), ("ab", "a"), ("b", "aa")):
            self.wrong(((names, ()),), 0)
            self.wrong((((), (1,)), (names, ())), 1)
            self.wrong((((), ()), (names, ()), (names, ())), 1)
        self.good(((("a", "aa", "ab", "b"), ()),))

    def test_later_not_rising(self):
        for later in ((2, 1), (1, 1), (1, 2, 2), (3, 1, 2), (2, 2), (1, 3, 2)):
            web = (((), later), ((), ()), ((), ()), ((), ()))
            self.wrong(web, 0)
            self.wrong((((), ()),) + ((((), tuple(number + 1 for number in later)),) + web[1:]), 1)

    def test_numbers_of_no_world_behind(self):
        for later in ((0,), (-1,), (2,), (3,), (-2,), (1, 2), (0, 1), (999,), (10 ** 20,), (-1, 1)):
            self.wrong((((), later), ((), ())), 0)
        for later in ((0,), (1,), (0, 1), (2,), (-1,)):
            # What world 0 has not behind it is wrong there already.
            self.wrong((((), (1,)), ((), later)), 1 if later == (1,) else 0)
            self.wrong((((), ()), ((), later)), 1)

    def test_a_number_that_lacks(self):
        self.wrong((((), (1,)), ((), (2,)), ((), ())), 0)
        self.good((((), (1, 2)), ((), (2,)), ((), ())))
        self.wrong((((), (1, 2)), ((), (2,)), ((), (3,)), ((), ())), 0)
        self.wrong((((), (1, 2, 3)), ((), (2,)), ((), (3,)), ((), ())), 1)
        self.good((((), (1, 2, 3)), ((), (2, 3)), ((), (3,)), ((), ())))

    def test_a_name_that_lacks(self):
        self.wrong(((("a",), (1,)), ((), ())), 0)
        self.wrong(((("a", "b"), (1,)), (("a", "c"), ())), 0)
        self.wrong((((), (1, 2)), (("b",), (2,)), (("a", "c"), ())), 1)
        self.good((((), (1, 2)), (("b",), (2,)), (("a", "b"), ())))

    def test_the_form_of_a_later_world_is_not_looked_at(self):
        # World 1 isn't good by itself; world 0 is, for it has all that world 1 has.
        self.wrong(((("a",), (1,)), (("b", "a"), ())), 1)
        self.wrong(((("a",), (1, 2)), (("a",), (2, 2)), (("a",), ())), 1)
        self.wrong(((("a",), (1, 2)), (("a", "a"), (2,)), (("a",), ())), 1)
        # A number of no world in world 1's later isn't one of world 0's either.
        self.wrong((((), (1,)), ((), (5,))), 0)
        self.wrong((((), (1,)), ((), (-1,))), 0)
        self.wrong((((), (1, 2)), ((), (2, 1)), ((), ())), 1)

    def test_the_first_of_two(self):
        wrong = (("b", "a"), ())
        self.wrong((wrong, wrong), 0)
        self.wrong((((), ()), wrong, wrong), 1)
        self.wrong(DIAMOND[:3] + (wrong, wrong), 3)
        self.wrong(DIAMOND[:3] + ((("b",), ()), wrong), 1)

    def test_without_worlds(self):
        self.wrong((), 0)

    def test_against_a_plain_look(self):
        dice, found = random.Random(71), {}
        for _ in range(4000):
            many = dice.randint(1, 4)
            web = tuple(
                (
                    tuple(sorted(dice.sample("abc", dice.randint(0, 2)), reverse=dice.random() < 0.1)),
                    tuple(sorted(dice.sample(range(at - 1 if dice.random() < 0.1 else at + 1, 5), dice.randint(0, max(0, 3 - at))))),
                )
                for at in range(many)
            )
            expected = slow_first_wrong(web)
            found[expected] = found.get(expected, 0) + 1
            if expected is None:
                self.good(web)
            else:
                self.wrong(web, expected)
        for key in (None, 0, 1, 2):
            self.assertGreater(found.get(key, 0), 20, found)


class Bears(unittest.TestCase):
    def check(self, web, saying):
        expected = [slow_bears(web, world, saying) for world in range(len(web))]
        for world, truth in enumerate(expected):
            self.assertIs(bears(web, world, saying), truth, (web, world, saying))
        told = fails(web, saying)
        self.assertEqual(told, [world for world, truth in enumerate(expected) if not truth])
        self.assertIsInstance(told, list)
        return told

    def test_by_hand(self):
        for web, saying, expected in (
            (DIAMOND, A, [0, 2]), (DIAMOND, B, [0, 1]), (DIAMOND, AND, [0, 1, 2]), (DIAMOND, OR, [0]), (DIAMOND, IF, [0, 1]), (DIAMOND, NOT, [0, 1, 2, 3]),
            (DIAMOND, ("not", NOT), []), (DIAMOND, ("or", A, NOT), [0, 2]), (DIAMOND, ("if", A, A), []), (DIAMOND, ("if", B, A), [0, 2]),
            (DIAMOND, ("or", IF, ("if", B, A)), [0]), (FORK, A, [0, 2]), (FORK, NOT, [0, 1]), (FORK, ("not", NOT), [0, 2]),
            (FORK, ("or", NOT, ("not", NOT)), [0]), (FORK, ("not", ("not", ("or", A, NOT))), []), (FORK, C, [0, 1, 2]), (FORK, ("not", C), []),
        ):
            self.assertEqual(self.check(web, saying), expected, (web, saying))

    def test_against_a_plain_look(self):
        sayings = small_sayings(4)
        for many in (1, 2, 3):
            for at, web in enumerate(good_webs(many)):
                for saying in sayings[at % 7::7]:
                    self.check(web, saying)

    def test_by_chance(self):
        dice = random.Random(72)
        webs = list(good_webs(3, ("a", "b", "c")))
        for _ in range(1500):
            self.check(dice.choice(webs), some_saying(dice, dice.randint(5, 14), "abcd"))

    def test_what_a_world_bears_those_behind_it_bear(self):
        for web in good_webs(3):
            for saying in (AND, OR, IF, NOT, ("not", NOT), ("if", NOT, B), ("or", IF, NOT)):
                for world, (_, later) in enumerate(web):
                    if bears(web, world, saying):
                        self.assertTrue(all(bears(web, other, saying) for other in later))

    def test_names_that_the_saying_lacks(self):
        web = ((("x",), (1,)), (("a", "x", "y"), ()))
        self.assertEqual(self.check(web, A), [0])
        self.assertEqual(self.check(web, ("say", "b")), [0, 1])
        self.assertEqual(self.check(web, ("not", ("say", "b"))), [])
        self.assertEqual(self.check(web, ("or", A, NOT)), [0])

    def test_each_part_is_asked_once_for_each_world(self):
        # Asked anew at each world behind, these would take 12 ** 20 steps.
        web = tuple((("a",), tuple(range(at + 1, 12))) for at in range(12))
        ahead = time.process_time()
        for saying in edge_sayings():
            fails(web, saying)
            bears(web, 0, saying)
        for word in ("not", "if"):
            saying = A
            for _ in range(20):
                saying = ("not", saying) if word == "not" else ("if", saying, A)
            self.assertEqual(fails(web, saying), [])
            self.assertIs(bears(web, 0, ("not", saying)), False)
        self.assertLess(time.process_time() - ahead, 5)

    def test_each_list_is_a_new_one(self):
        told = fails(FORK, A)
        told.append(7)
        self.assertEqual(fails(FORK, A), [0, 2])


class TrueBy(unittest.TestCase):
    def rows(self, names):
        return [row for many in range(len(names) + 1) for row in itertools.combinations(names, many)]

    def test_against_a_plain_look(self):
        for saying in small_sayings(5):
            for names in self.rows("ab"):
                self.assertIs(true_by(names, saying), is_true(saying, names), (names, saying))

    def test_by_chance(self):
        dice = random.Random(73)
        for _ in range(300):
            saying = some_saying(dice, dice.randint(6, 40), "abc")
            for names in self.rows("abc"):
                self.assertIs(true_by(names, saying), is_true(saying, names))

    def test_webs_with_one_world(self):
        for saying in small_sayings(5):
            for names in self.rows("ab"):
                self.assertIs(true_by(names, saying), bears(((names, ()),), 0, saying))

    def test_by_hand(self):
        for saying, true in (
            (A, (("a",), ("a", "b"))), (AND, (("a", "b"),)), (OR, (("a",), ("b",), ("a", "b"))), (IF, ((), ("b",), ("a", "b"))), (NOT, ((), ("b",))),
        ):
            for names in self.rows("ab"):
                self.assertIs(true_by(names, saying), names in true, (names, saying))

    def test_names_that_the_saying_lacks(self):
        self.assertIs(true_by(("x", "y"), A), False)
        self.assertIs(true_by(("a", "x"), A), True)
        self.assertIs(true_by(("x",), NOT), True)
        self.assertEqual(names_in(NOT), ["a"])


if __name__ == "__main__":
    unittest.main()
