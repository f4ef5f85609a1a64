"""Papers as texts: written row by row, read the same, all else refused."""

import random
import unittest

from helper import A, B, C, edge_sayings, small_sayings, some_saying
from test_papers import AHEAD, WHYS, good_papers, row
from talkcourt.errors import NoText, TalkError
from talkcourt.papers import checked
from talkcourt.papertexts import read_paper, show_paper
from talkcourt.saywrite import show_saying

AND, OR, IF, NOT = ("and", A, B), ("or", A, B), ("if", A, B), ("not", A)
PAPER = (
    row([NOT, A], NOT, "given"), row([A], A, "given"), row([NOT, A], None, "clash", 0, 1), row([NOT, A], OR, "all", 2),
    row([NOT], ("if", A, OR), "then", 3), row([], ("if", NOT, ("if", A, OR)), "then", 4),
)
TEXT = (
    "0. {not a} {a} so {not a} by given\n1. {a} so {a} by given\n2. {not a} {a} so nonsense by clash 0 1\n"
    "3. {not a} {a} so {a or b} by all 2\n4. {not a} so {a then a or b} by then 3\n5. so {not a then a then a or b} by then 4"
)
NO_TEXTS = (None, 0, True, b"0. {a} so {a} by given", [TEXT], (TEXT,), PAPER, {}, 1.5, object())


def places_outside(text):
    """The places of a text that stand outside of braces, edges counted."""
    return [at for at in range(len(text) + 1) if text[:at].count("{") == text[:at].count("}")]


class Texts(unittest.TestCase):
    def same(self, paper, text):
        told = read_paper(text)
        self.assertEqual(told, paper, text)
        self.assertEqual(repr(told), repr(paper))

    def both_ways(self, paper, text):
        self.assertEqual(show_paper(paper), text)
        self.same(paper, text)

    def refused(self, text):
        with self.assertRaises(NoText, msg=repr(text)) as caught:
            read_paper(text)
        self.assertIsInstance(caught.exception, TalkError)

    def wrong(self, row_text):
        """A row 0, or a row 1 where it begins with that, is refused."""
        self.refused(row_text)
        self.refused(row_text + "\n1. {a} so {a} by given")
        if row_text.startswith("0."):
            self.refused("0. {a} so {a} by given\n1." + row_text[2:])


class Written(Texts):
    def test_the_example(self):
        self.both_ways((row([A], A, "given"),), "0. {a} so {a} by given")

    def test_row_by_row(self):
        self.assertTrue(checked(PAPER))
        self.both_ways(PAPER, TEXT)
        for many in range(1, len(PAPER)):
            self.both_ways(PAPER[:many], "\n".join(TEXT.split("\n")[:many]))

    def test_each_why(self):
        for paper in list(good_papers().values()) + [AHEAD]:
            text = show_paper(paper)
            self.assertEqual(text.count("\n"), len(paper) - 1)
            self.same(paper, text)
        for why in WHYS:
            self.both_ways((((), A, why, ()),), f"0. so {{a}} by {why}")
            self.both_ways((((), None, why, (0, 1, 2, 3)),), f"0. so nonsense by {why} 0 1 2 3")

    def test_without_rows(self):
        self.both_ways((), "")

    def test_good_or_not(self):
        for number in (0, 1, 9, 10, 99, 1000, 999999999):
            self.both_ways((((), A, "all", (number,)),), f"0. so {{a}} by all {number}")
        self.both_ways(((tuple(sorted((A, B, C, AND))), None, "left", ()),), "0. {a and b} {a} {b} {c} so nonsense by left")

    def test_names_like_words(self):
        for name in ("so", "by", "given", "both", "left", "cases", "all", "put", "nota", "thenx", "use", "clash", "one"):
            saying = ("say", name)
            self.both_ways((((saying,), saying, "given", ()),), f"0. {{{name}}} so {{{name}}} by given")
        self.both_ways((row([], ("say", "so"), "one", 0), row([("say", "by")], None, "all", 0)), "0. so {so} by one 0\n1. {by} so nonsense by all 0")

    def test_many_rows(self):
        paper = tuple(row([A], A, "given") for _ in range(60))
        self.both_ways(paper, "\n".join(f"{number}. {{a}} so {{a}} by given" for number in range(60)))

    def test_sayings_at_the_edges(self):
        for saying in edge_sayings() + small_sayings(4):
            text = show_saying(saying)
            self.both_ways((((saying,), saying, "given", ()),), f"0. {{{text}}} so {{{text}}} by given")

    def test_by_chance(self):
        dice = random.Random(51)
        for _ in range(200):
            paper = tuple(
                row(
                    {some_saying(dice, dice.randint(1, 9), "abc") for _ in range(dice.randint(0, 12))},
                    dice.choice((None, some_saying(dice, dice.randint(1, 9), "abc"))),
                    dice.choice(WHYS), *(dice.randint(0, 60) for _ in range(dice.randint(0, 3))),
                )
                for _ in range(dice.randint(0, 12))
            )
            self.same(paper, show_paper(paper))
            self.assertEqual(show_paper(read_paper(show_paper(paper))), show_paper(paper))

    def test_within_braces(self):
        self.same(PAPER, TEXT.replace("{", "{ (").replace("}", ")  }"))
        self.same(PAPER, TEXT.replace("{", "{((").replace("}", "))}"))
        self.same(PAPER, TEXT.replace("not a", "not( a )"))
        self.same((((AND,), AND, "given", ()),), "0. {  (a)and(b)} so {((a and b)) } by given")


class Refused(Texts):
    def test_numbers_of_rows(self):
        for number in ("", "1", "00", "01", "-0", "+0", "a", "0.", "{0}", "10", " 0", "0 "):
            self.refused(f"{number}. {{a}} so {{a}} by given")
        for number in ("0", "2", "01", "", "-1", "+1", "11", "i"):
            self.refused(f"0. {{a}} so {{a}} by given\n{number}. {{a}} so {{a}} by given")
        for mark in ("0", "0:", "0,", "0)", "0..", ".0", "."):
            self.refused(f"{mark} {{a}} so {{a}} by given")
        rows = TEXT.split("\n")
        for at in range(len(rows)):
            self.refused("\n".join(rows[:at + 1] + rows[at:]))
        for at in range(len(rows) - 1):
            self.refused("\n".join(rows[:at] + rows[at + 1:]))
        self.refused("\n".join(rows[::-1]))

    def test_blanks(self):
        for at in places_outside(TEXT):
            self.refused(TEXT[:at] + " " + TEXT[at:])
            self.refused(TEXT[:at] + "\t" + TEXT[at:])
            if TEXT[at:at + 1] == " ":
                self.refused(TEXT[:at] + TEXT[at + 1:])
                self.refused(TEXT[:at] + "\t" + TEXT[at + 1:])
        self.refused(" ")

    def test_so_and_by(self):
        for text in (
            "0. {a} {a} by given", "0. {a} so {a} given", "0. {a} so so {a} by given", "0. {a} so {a} by by given", "0. so {a} so {a} by given",
            "0. {a} so {a} so by given", "0. {a} by {a} so given", "0. {a} so {a}", "0. {a} so {a} by", "0. {a} so", "0. {a}", "0.", "0. so",
            "0. so by given", "0. {a} so by given", "0. so {a} by given by given", "so {a} by given", "0. {so} {a} by given",
            "0. {a} So {a} by given", "0. {a} so {a} By given", "0. {a} so {a} by given so", "0. {a} therefore {a} by given", "0. by given",
        ):
            self.wrong(text)

    def test_what_is_said(self):
        for text in (
            "0. {a} so a by given", "0. {a} so {a} {b} by given", "0. {a} so nonsense {a} by given", "0. {a} so {a} nonsense by given",
            "0. {a} so {nonsense by given", "0. {a} so Nonsense by given", "0. {a} so nonsence by given", "0. {a} so None by given",
            "0. nonsense so {a} by given", "0. {a} nonsense so {a} by given", "0. a so {a} by given", "0. {a} b so {a} by given",
            "0. {a} so {} by given", "0. {} so {a} by given", "0. { } so {a} by given", "0. {a} so { } by given", "0. {()} so {a} by given",
            "0. {a b} so {a} by given", "0. {a} so {a and} by given", "0. {a} so {A} by given", "0. {a}{b} so {a} by given",
        ):
            self.wrong(text)
        # Within braces nonsense is no name: it has eight letters.
        self.wrong("0. {nonsense} so {a} by given")
        self.wrong("0. {a} so {nonsense} by given")

    def test_whys(self):
        for why in ("", "Given", "GIVEN", "give", "givens", "and", "or", "if", "which", "nonsense", "so", "by", "0", "{given}", "(given)", "given,"):
            self.wrong(f"0. {{a}} so {{a}} by {why}")
            self.wrong(f"0. {{a}} so {{a}} by {why} 0")
        self.wrong("0. {a} so {a} by given given")
        self.wrong("0. {a} so {a} by one two 0")
        self.wrong("0. {a} so {a} by 0 one")

    def test_numbers_above(self):
        for number in (
            "00", "01", "007", "-1", "-0", "+1", "+0", "1234567890", "0000000001", "1000000000", "1.", "1.0", "1,2", "a", "{0}", "(0)", "0x1",
            "1_0", "\u0661", "\u00b2", "0;",
        ):
            for why in ("one", "both 0", "cases 0 1"):
                self.wrong(f"0. {{a}} so {{a}} by {why} {number}")
                self.wrong(f"0. {{a}} so {{a}} by {why} {number} 0")

    def test_given(self):
        for text in (
            "0. {a} {a} so {a} by given", "0. {b} {a} so {a} by given", "0. {a} {a and b} so {a} by given", "0. {a} {b} {b} so {a} by given",
            "0. {a} {c} {b} so {a} by given", "0. {a} {(a)} so {a} by given", "0. {a or b} {a and b} so {a} by given",
            "0. {a} {not a} so {a} by given",
        ):
            self.wrong(text)

    def test_line_feeds(self):
        self.refused("\n")
        for at in range(len(TEXT) + 1):
            self.refused(TEXT[:at] + "\n" + TEXT[at:])
            if TEXT[at:at + 1] == " ":
                self.refused(TEXT[:at] + "\n" + TEXT[at + 1:])
            if TEXT[at:at + 1] == "\n":
                self.refused(TEXT[:at] + TEXT[at + 1:])
                self.refused(TEXT[:at] + " " + TEXT[at + 1:])
        self.refused("0. {a\n} so {a} by given")
        self.refused("0. {a} so {a} by given\n")

    def test_braces_and_brackets(self):
        for at in range(len(TEXT) + 1):
            for sign in "{}()":
                self.refused(TEXT[:at] + sign + TEXT[at:])
            if TEXT[at:at + 1] in ("{", "}"):
                self.refused(TEXT[:at] + TEXT[at + 1:])

    def test_another_case(self):
        for at, sign in enumerate(TEXT):
            if sign.isalpha():
                self.refused(TEXT[:at] + sign.upper() + TEXT[at + 1:])

    def test_what_is_no_text(self):
        for thing in NO_TEXTS:
            self.refused(thing)


if __name__ == "__main__":
    unittest.main()
