"""Papers: each why lets what it lets, and the first row that isn't good is told."""

import random
import unittest

from helper import A, B, C, some_saying
from talkcourt.errors import NoPaper, TalkError
from talkcourt.papers import checked, shown

AND, OR, IF, NOT = ("and", A, B), ("or", A, B), ("if", A, B), ("not", A)
WHYS = ("given", "both", "left", "right", "one", "two", "cases", "then", "use", "not", "clash", "all", "put")


def row(given, said, why, *above):
    return (tuple(sorted(given)), said, why, above)


def given(*sayings):
    """Rows that say these sayings, each given in its own."""
    return tuple(row([saying], saying, "given") for saying in sayings)


def good_papers():
    """For each why a paper whose last row is good by it and all of whose rows are needed there; all rows are good."""
    nonsense = given(NOT, A) + (row([NOT, A], None, "clash", 0, 1),)
    return {
        "given": given(A, B),
        "both": given(A, B) + (row([A, B], AND, "both", 0, 1),),
        "left": given(AND) + (row([AND], A, "left", 0),),
        "right": given(AND) + (row([AND], B, "right", 0),),
        "one": given(A) + (row([A], OR, "one", 0),),
        "two": given(B) + (row([B], OR, "two", 0),),
        "cases": given(OR, A, B) + (
            row([A], ("or", B, A), "two", 1), row([B], ("or", B, A), "one", 2), row([OR], ("or", B, A), "cases", 0, 3, 4),
        ),
        "then": given(B) + (row([B], IF, "then", 0),),
        "use": given(IF, A) + (row([IF, A], B, "use", 0, 1),),
        "not": nonsense + (row([NOT], ("not", A), "not", 2),),
        "clash": nonsense,
        "all": nonsense + (row([NOT, A], C, "all", 2),),
        "put": given(AND, A) + (row([AND], A, "left", 0), row([A], OR, "one", 1), row([AND], OR, "put", 2, 3)),
    }


class Papers(unittest.TestCase):
    def good(self, paper):
        self.assertIs(checked(paper), True, paper)

    def wrong(self, paper, number):
        with self.assertRaises(NoPaper, msg=repr(paper)) as caught:
            checked(paper)
        self.assertEqual(caught.exception.row, number, repr(paper))
        self.assertIsInstance(caught.exception, TalkError)
        self.assertIsInstance(caught.exception, ValueError)

    def last(self, ahead, expected, *last):
        """Whether a row behind good ones is good."""
        paper = ahead + (row(*last),)
        if expected:
            self.good(paper)
        else:
            self.wrong(paper, len(ahead))


# Rows 0 to 9: bare ones, one of each sort, nonsense.
AHEAD = given(A, B, C, AND, OR, IF, NOT) + (
    row([A, NOT], None, "clash", 6, 0), row([AND], A, "left", 3), row([AND, NOT], None, "clash", 6, 8),
)


class EachWhy(Papers):
    def test_rows_ahead_are_good(self):
        self.good(AHEAD)

    def test_given(self):
        for saying in (A, AND, OR, IF, NOT):
            self.last((), True, [saying], saying, "given")
            self.last((), True, [saying, C], saying, "given")
            self.last((), False, [], saying, "given")
            self.last((), False, [("not", saying)], saying, "given")
            self.last((), False, [saying], None, "given")
            self.last(AHEAD, False, [saying], saying, "given", 0)
        self.last((), False, [], None, "given")
        self.last((), False, [AND], A, "given")

    def test_both(self):
        self.last(AHEAD, True, [A, B], AND, "both", 0, 1)
        self.last(AHEAD, True, [A, B, C, IF], AND, "both", 0, 1)
        self.last(AHEAD, True, [A], ("and", A, A), "both", 0, 0)
        self.last(AHEAD, True, [NOT, OR], ("and", OR, NOT), "both", 4, 6)
        self.last(AHEAD, True, [AND, B], AND, "both", 8, 1)
        for given_ones, said, above in (
            ([A, B], AND, (1, 0)), ([A, B], ("and", B, A), (0, 1)), ([A, B], OR, (0, 1)), ([A, B], IF, (0, 1)), ([A, B], A, (0, 1)),
            ([A], AND, (0, 1)), ([B], AND, (0, 1)), ([], AND, (0, 1)), ([A, B], None, (0, 1)), ([A, B, NOT], AND, (0, 7)),
            ([A, B, NOT], AND, (7, 1)), ([A, NOT], None, (7, 7)), ([A, B], AND, (0,)), ([A, B], AND, (0, 1, 1)), ([A, B], AND, ()),
            ([AND], AND, (3, 3)), ([A, B], AND, (8, 1)),
        ):
            self.last(AHEAD, False, given_ones, said, "both", *above)

    def test_nothing_is_let_go(self):
        # What the first row above says is given in the second one, so that it must be given in the last one, too.
        ahead = given(AND) + (row([AND], A, "left", 0), row([A], A, "given"), row([IF], IF, "given"), row([A, IF], A, "given"))
        for given_ones, said, why, above, lacking in (
            ([AND, A], ("and", A, A), "both", (1, 2), A), ([IF, A], B, "use", (3, 4), IF),
        ):
            self.last(ahead, True, given_ones, said, why, *above)
            self.last(ahead, False, [saying for saying in given_ones if saying != lacking], said, why, *above)
        both = ("and", NOT, A)
        ahead = given(both) + (row([both], NOT, "left", 0), row([NOT, A], A, "given"))
        self.last(ahead, True, [both, NOT, A], None, "clash", 1, 2)
        self.last(ahead, False, [both, A], None, "clash", 1, 2)
        self.last(ahead, False, [both, NOT], None, "clash", 1, 2)

    def test_left_and_right(self):
        self.last(AHEAD, True, [AND], A, "left", 3)
        self.last(AHEAD, True, [AND], B, "right", 3)
        self.last(AHEAD, True, [AND, C], A, "left", 3)
        for why, said, other in (("left", A, B), ("right", B, A)):
            self.last(AHEAD, False, [AND], other, why, 3)
            self.last(AHEAD, False, [AND], AND, why, 3)
            self.last(AHEAD, False, [AND], None, why, 3)
            self.last(AHEAD, False, [], said, why, 3)
            self.last(AHEAD, False, [said], said, why, 3)
            self.last(AHEAD, False, [OR], said, why, 4)
            self.last(AHEAD, False, [IF], said, why, 5)
            self.last(AHEAD, False, [NOT], said, why, 6)
            self.last(AHEAD, False, [A, NOT], said, why, 7)
            self.last(AHEAD, False, [A], said, why, 0)
            self.last(AHEAD, False, [AND], said, why)
            self.last(AHEAD, False, [AND], said, why, 3, 3)
        both = given(("and", A, A))
        self.last(both, True, [("and", A, A)], A, "left", 0)
        self.last(both, True, [("and", A, A)], A, "right", 0)

    def test_one_and_two(self):
        self.last(AHEAD, True, [A], OR, "one", 0)
        self.last(AHEAD, True, [B], OR, "two", 1)
        self.last(AHEAD, True, [A, C], ("or", A, NOT), "one", 0)
        self.last(AHEAD, True, [A], ("or", A, A), "two", 0)
        for why, said, good, other in (("one", A, 0, 1), ("two", B, 1, 0)):
            self.last(AHEAD, False, [A, B], OR, why, other)
            self.last(AHEAD, False, [A, B], AND, why, good)
            self.last(AHEAD, False, [A, B], IF, why, good)
            self.last(AHEAD, False, [A, B], ("not", said), why, good)
            self.last(AHEAD, False, [A, B], said, why, good)
            self.last(AHEAD, False, [A, B], None, why, good)
            self.last(AHEAD, False, [A, NOT], None, why, 7)
            self.last(AHEAD, False, [A, NOT], OR, why, 7)
            self.last(AHEAD, False, [OR], OR, why, 4)
            self.last(AHEAD, False, [], OR, why, good)
            self.last(AHEAD, False, [A, B], OR, why)
            self.last(AHEAD, False, [A, B], OR, why, good, good)

    def test_cases(self):
        ahead = given(OR, A, B) + (
            row([A, C], C, "given"), row([B, IF, C], C, "given"), row([A, NOT], A, "given"), row([A, NOT], NOT, "given"),
            row([A, NOT], None, "clash", 6, 5), row([B, NOT, A], None, "clash", 6, 5), row([C], C, "given"),
        )
        self.good(ahead)
        self.last(ahead, True, [OR, IF, C], C, "cases", 0, 3, 4)
        self.last(ahead, True, [OR, IF, C, A, NOT], C, "cases", 0, 3, 4)
        self.last(ahead, True, [OR, C], C, "cases", 0, 9, 9)
        self.last(ahead, True, [OR, C], C, "cases", 0, 3, 9)
        # Nonsense may be said by cases, too.
        self.last(ahead, True, [OR, NOT, A], None, "cases", 0, 7, 8)
        for given_ones, said, above in (
            ([IF, C], C, (0, 3, 4)), ([OR, C], C, (0, 3, 4)), ([OR, IF], C, (0, 3, 4)), ([OR, IF, C], C, (0, 4, 3)),
            ([OR, IF, C], B, (0, 3, 4)), ([OR, IF, C], None, (0, 3, 4)), ([OR, IF, C], OR, (0, 3, 4)), ([OR, IF, C], C, (1, 3, 4)),
            ([OR, IF, C, A], C, (0, 3)), ([OR, IF, C], C, (0, 3, 4, 4)), ([OR, IF, C], C, ()), ([OR, IF, C, A, NOT], C, (7, 3, 4)),
            ([OR, NOT], None, (0, 7, 8)), ([OR, NOT, A, C], C, (0, 7, 3)), ([OR, NOT, A, C], C, (0, 3, 8)), ([OR, C, A, B, NOT], None, (0, 3, 8)),
            ([OR, A], A, (0, 1, 2)), ([OR, A, B], A, (0, 1, 2)), ([OR, IF, C], ("or", C, C), (0, 3, 4)),
        ):
            self.last(ahead, False, given_ones, said, "cases", *above)
        for whole in (AND, IF, ("not", A)):
            self.last(given(whole) + (row([A, B, C], C, "given"),), False, [A, B, C, whole], C, "cases", 0, 1, 1)

    def test_then(self):
        ahead = given(A, B) + (row([A, B, C], B, "given"), row([A, NOT], NOT, "given"), row([A, NOT], None, "clash", 3, 0))
        self.last(ahead, True, [], ("if", A, A), "then", 0)
        self.last(ahead, True, [B], IF, "then", 1)
        self.last(ahead, True, [B, C], IF, "then", 2)
        self.last(ahead, True, [A, B, C], IF, "then", 2)
        self.last(ahead, True, [A, B], ("if", C, B), "then", 2)
        for given_ones, said, above in (
            ([], IF, (1,)), ([A], IF, (1,)), ([B], IF, (2,)), ([C], IF, (2,)), ([B, C], ("if", B, B), (2,)), ([B, C], ("if", A, A), (2,)),
            ([B, C], ("if", B, A), (2,)), ([B, C], AND, (2,)), ([B, C], OR, (2,)), ([B, C], B, (2,)), ([B, C], None, (2,)),
            ([B, C], NOT, (2,)), ([NOT], ("if", A, A), (4,)), ([B], IF, ()), ([B], IF, (1, 1)), ([NOT], NOT, (4,)),
        ):
            self.last(ahead, False, given_ones, said, "then", *above)

    def test_use(self):
        self.last(AHEAD, True, [IF, A], B, "use", 5, 0)
        self.last(AHEAD, True, [IF, AND], B, "use", 5, 8)
        self.last(AHEAD, True, [IF, A, B, C], B, "use", 5, 0)
        for given_ones, said, above in (
            ([IF, A], A, (5, 0)), ([IF, A], IF, (5, 0)), ([IF, A], None, (5, 0)), ([IF, B], B, (5, 1)), ([IF, A], B, (0, 5)), ([IF], B, (5, 0)),
            ([A], B, (5, 0)), ([], B, (5, 0)), ([AND, A], B, (3, 0)), ([OR, A], B, (4, 0)), ([NOT, A], B, (6, 0)), ([A, NOT, IF], B, (5, 7)),
            ([A, NOT], B, (7, 0)), ([IF, A], B, (5,)), ([IF, A], B, (5, 0, 0)), ([IF, A], B, ()), ([IF, A], B, (5, 5)), ([A, IF], B, (5, 8)),
        ):
            self.last(AHEAD, False, given_ones, said, "use", *above)

    def test_not(self):
        self.last(AHEAD, True, [NOT], NOT, "not", 7)
        self.last(AHEAD, True, [A], ("not", NOT), "not", 7)
        self.last(AHEAD, True, [A, NOT], ("not", C), "not", 7)
        self.last(AHEAD, True, [NOT], ("not", AND), "not", 9)
        for given_ones, said, above in (
            ([], NOT, (7,)), ([A], NOT, (7,)), ([NOT], ("not", NOT), (7,)), ([NOT], ("not", B), (7,)), ([NOT], A, (7,)), ([NOT], None, (7,)),
            ([NOT], ("if", A, B), (7,)), ([A], NOT, (0,)), ([NOT], NOT, (6,)), ([A, NOT], NOT, ()), ([A, NOT], NOT, (7, 7)), ([], NOT, (0,)),
            ([NOT, A], ("and", A, A), (7,)), ([NOT], NOT, (9,)),
        ):
            self.last(AHEAD, False, given_ones, said, "not", *above)

    def test_clash(self):
        self.last(AHEAD, True, [NOT, A], None, "clash", 6, 0)
        self.last(AHEAD, True, [NOT, AND], None, "clash", 6, 8)
        self.last(AHEAD, True, [NOT, A, B], None, "clash", 6, 0)
        for given_ones, said, above in (
            ([NOT, A], A, (6, 0)), ([NOT, A], NOT, (6, 0)), ([NOT, B], None, (6, 1)), ([NOT, A], None, (0, 6)), ([NOT], None, (6, 0)),
            ([A], None, (6, 0)), ([], None, (6, 0)), ([IF, A], None, (5, 0)), ([NOT], None, (6, 6)), ([NOT, A], None, (6, 7)),
            ([NOT, A], None, (7, 0)), ([NOT, A], None, (6,)), ([NOT, A], None, ()), ([NOT, A], None, (6, 0, 0)), ([NOT, A], None, (6, 8)),
            ([A, NOT], None, (7, 7)), ([A, AND], None, (3, 0)),
        ):
            self.last(AHEAD, False, given_ones, said, "clash", *above)

    def test_all(self):
        for saying in (A, B, C, AND, OR, IF, NOT):
            self.last(AHEAD, True, [A, NOT], saying, "all", 7)
            self.last(AHEAD, True, [A, NOT, IF], saying, "all", 7)
            self.last(AHEAD, False, [A], saying, "all", 7)
            self.last(AHEAD, False, [NOT], saying, "all", 7)
            self.last(AHEAD, False, [A], saying, "all", 0)
            self.last(AHEAD, False, [A, NOT], saying, "all")
            self.last(AHEAD, False, [A, NOT], saying, "all", 7, 7)
        self.last(AHEAD, False, [A, NOT], None, "all", 7)
        self.last(AHEAD, False, [NOT], NOT, "all", 6)

    def test_put(self):
        ahead = AHEAD + (row([A, C], C, "given"), row([A], OR, "one", 0))
        self.last(ahead, True, [AND], OR, "put", 8, 11)
        self.last(ahead, True, [AND, C], C, "put", 8, 10)
        self.last(ahead, True, [A, AND, C], C, "put", 8, 10)
        self.last(ahead, True, [B, A], A, "put", 1, 0)
        # Nonsense may be said by put, too, but not put in.
        self.last(ahead, True, [AND, NOT], None, "put", 8, 7)
        self.last(ahead, True, [A, NOT], None, "put", 6, 7)
        for given_ones, said, above in (
            ([AND], OR, (11, 8)), ([], OR, (8, 11)), ([A], OR, (8, 11)), ([AND], A, (8, 11)), ([AND], None, (8, 11)), ([AND], C, (8, 10)),
            ([C], C, (8, 10)), ([AND, A], C, (8, 10)), ([A, NOT], A, (7, 0)), ([A, NOT], None, (7, 7)), ([A, NOT], OR, (7, 11)),
            ([AND], OR, (8,)), ([AND], OR, (8, 11, 11)), ([AND], OR, ()), ([B], OR, (1, 11)), ([AND], None, (8, 7)), ([AND, NOT], A, (8, 7)),
        ):
            self.last(ahead, False, given_ones, said, "put", *above)


class Rows(Papers):
    def test_good_papers(self):
        found = good_papers()
        self.assertEqual(tuple(found), WHYS)
        for why, paper in found.items():
            self.assertEqual(paper[-1][2], why)
            self.good(paper)

    def test_numbers_of_no_row_ahead(self):
        for paper in good_papers().values():
            given_ones, said, why, above = paper[-1]
            for at in range(len(above)):
                for number in (-1, -len(paper), len(paper) - 1, len(paper), 999, 10 ** 9):
                    wrong = above[:at] + (number,) + above[at + 1:]
                    self.wrong(paper[:-1] + ((given_ones, said, why, wrong),), len(paper) - 1)

    def test_another_count_above(self):
        for paper in good_papers().values():
            given_ones, said, why, above = paper[-1]
            for wrong in (above + (0,), above + above[:1] + (0,), above[:-1] if above else (0,)):
                self.wrong(paper[:-1] + ((given_ones, said, why, wrong),), len(paper) - 1)

    def test_given_not_sorted_or_twice(self):
        for paper in good_papers().values():
            given_ones, said, why, above = paper[-1]
            more = tuple(sorted(set(given_ones) | {C, ("not", C)}))
            self.good(paper[:-1] + ((more, said, why, above),))
            for wrong in (more[::-1], more + more[-1:], more[:1] + more, more[1:] + more[:1], more[:1] + more[:1] + more[1:]):
                self.wrong(paper[:-1] + ((wrong, said, why, above),), len(paper) - 1)

    def test_given_less(self):
        for paper in good_papers().values():
            given_ones, said, why, above = paper[-1]
            less = [given_ones[:at] + given_ones[at + 1:] for at in range(len(given_ones))]
            for wrong in less:
                self.wrong(paper[:-1] + ((wrong, said, why, above),), len(paper) - 1)

    def test_a_why_of_no_sort(self):
        for paper in good_papers().values():
            given_ones, said, why, above = paper[-1]
            for wrong in ("", "Given", why.upper(), why + " ", why + "s", "none", "nonsense", "so", "by", "if", "and", "which", "0"):
                self.wrong(paper[:-1] + ((given_ones, said, wrong, above),), len(paper) - 1)

    def test_another_why(self):
        for why, paper in good_papers().items():
            for other in WHYS:
                if other != why:
                    self.wrong(paper[:-1] + (paper[-1][:2] + (other,) + paper[-1][3:],), len(paper) - 1)

    def test_above_in_another_order(self):
        for paper in good_papers().values():
            above = paper[-1][3]
            if len(above) > 1:
                self.wrong(paper[:-1] + (paper[-1][:3] + (above[::-1],),), len(paper) - 1)

    def test_nonsense_for_a_saying_and_the_other_way_round(self):
        for paper in good_papers().values():
            said = paper[-1][1]
            for other in (None, C, ("not", C), ("and", C, C), ("or", C, C), ("if", C, C)):
                if other != said and paper[-1][2] != "all":
                    self.wrong(paper[:-1] + ((paper[-1][0], other) + paper[-1][2:],), len(paper) - 1)

    def test_the_first_wrong_row(self):
        wrong = ((), A, "given", ())
        self.wrong((wrong,), 0)
        self.wrong((wrong, wrong), 0)
        self.wrong(AHEAD + (wrong,) + AHEAD, len(AHEAD))
        self.wrong(AHEAD[:3] + (wrong,) + (wrong,), 3)
        self.wrong((wrong,) + AHEAD, 0)
        # A row that isn't good is told, though the one that needs it would be good by itself.
        self.wrong((wrong, row([], OR, "one", 0)), 0)

    def test_without_rows(self):
        self.wrong((), 0)

    def test_sixty_rows(self):
        paper = (row([A], A, "given"),) + tuple(row([A] + [B] * (at > 29), A, "put", at, at) for at in range(59))
        self.assertEqual(len(paper), 60)
        self.good(paper)
        # Behind row 30 b is given, so that it must be given in all that follow.
        for at in range(32, 60):
            self.wrong(paper[:at] + (row([A], A, "put", at - 1, at - 1),) + paper[at + 1:], at)

    def test_many_given(self):
        dice = random.Random(41)
        many = tuple(sorted({some_saying(dice, size, "abc") for size in range(1, 40) for _ in range(3)}))
        twelve = many[:6] + many[-6:]
        for saying in twelve:
            self.good(((twelve, saying, "given", ()),))
            self.wrong(((twelve, ("not", saying), "given", ()),), 0)
        paper = tuple((twelve, saying, "given", ()) for saying in twelve) + ((twelve, ("and",) + twelve[:2], "both", (0, 1)),)
        self.good(paper)
        self.wrong(paper[:-1] + ((twelve[1:],) + paper[-1][1:],), len(paper) - 1)

    def test_what_is_handed_in_stays(self):
        for paper in good_papers().values():
            ahead = repr(paper)
            self.assertIs(checked(paper), checked(paper))
            self.assertEqual(shown(paper), shown(paper))
            self.assertEqual(repr(paper), ahead)


class Shown(unittest.TestCase):
    def test_nothing_given(self):
        for saying in (A, AND, OR, IF, NOT):
            self.assertEqual(shown((((), saying, "given", ()),)), saying)
            self.assertEqual(shown(AHEAD + (((), saying, "all", (7,)),)), saying)
            self.assertEqual(shown((((), saying, "no why", (3, 3)),)), saying)

    def test_a_good_one(self):
        self.assertEqual(shown((row([A], A, "given"), row([], ("if", A, A), "then", 0))), ("if", A, A))

    def test_something_given(self):
        for given_ones in ((A,), (A, B), (AND,)):
            self.assertIsNone(shown(((given_ones, A, "given", ()),)))
            self.assertIsNone(shown((((), A, "given", ()), (given_ones, A, "given", ()))))

    def test_nonsense_and_without_rows(self):
        self.assertIsNone(shown((((), None, "clash", (0, 1)),)))
        self.assertIsNone(shown(()))


if __name__ == "__main__":
    unittest.main()
