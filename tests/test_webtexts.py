"""Webs as texts: written world by world, read good or not, all else refused."""

import random
import unittest

from helper import good_webs
from talkcourt.errors import NoText, TalkError
from talkcourt.webs import checked_web
from talkcourt.webtexts import read_web, show_web

WEB = (((), (1, 2)), (("a",), ()), (("a", "b"), ()))
TEXT = "0: > 1 2\n1: a >\n2: a b >"
NO_TEXTS = (None, 0, True, b"0: >", [TEXT], (TEXT,), WEB, (), {}, 1.5, object())


class Texts(unittest.TestCase):
    def same(self, web, text):
        told = read_web(text)
        self.assertEqual(told, web, text)
        self.assertEqual(repr(told), repr(web))

    def both_ways(self, web, text):
        self.assertEqual(show_web(web), text)
        self.same(web, text)

    def refused(self, text):
        with self.assertRaises(NoText, msg=repr(text)) as caught:
            read_web(text)
        self.assertIsInstance(caught.exception, TalkError)

    def test_the_examples(self):
        self.both_ways(WEB, TEXT)
        self.both_ways((((), (1, 2)),), "0: > 1 2")
        self.both_ways((((), ()), ((), ()), (("a", "b"), ())), "0: >\n1: >\n2: a b >")

    def test_names_and_numbers(self):
        for web, text in (
            ((((), ()),), "0: >"), (((("a",), ()),), "0: a >"), (((("a",), (1,)),), "0: a > 1"), (((("abcdef", "zz"), (0, 10, 999)),), "0: abcdef zz > 0 10 999"),
            (((("so", "by", "if", "nota", "thena", "andor"), ()),), "0: so by if nota thena andor >"),
        ):
            self.both_ways(web, text)

    def test_without_worlds(self):
        self.both_ways((), "")

    def test_good_webs(self):
        for many in (1, 2, 3):
            for web in good_webs(many):
                self.same(web, show_web(web))
                self.assertTrue(checked_web(read_web(show_web(web))))

    def test_good_or_not(self):
        dice = random.Random(81)
        for _ in range(300):
            web = tuple(
                (tuple(dice.choice(("a", "b", "ab", "longer")) for _ in range(dice.randint(0, 4))), tuple(dice.randint(0, 999) for _ in range(dice.randint(0, 4))))
                for _ in range(dice.randint(0, 12))
            )
            self.same(web, show_web(web))
        self.both_ways(((("b", "a", "a"), (3, 0, 0)),), "0: b a a > 3 0 0")

    def test_many_worlds(self):
        web = tuple(((), ()) for _ in range(12))
        self.both_ways(web, "\n".join(f"{number}: >" for number in range(12)))

    def test_blanks(self):
        for at in range(len(TEXT) + 1):
            for sign in " \t":
                self.refused(TEXT[:at] + sign + TEXT[at:])
            if TEXT[at:at + 1] == " ":
                self.refused(TEXT[:at] + "\t" + TEXT[at + 1:])
        for text in (" ", "0:>", "0:a >", "0: a>", "0: >1", "0: a >1", "0:  >", "0: > ", " 0: >", "0 : >", "0: a  b >", "0: >  1", "0: > 1  2", "0: a > 1 "):
            self.refused(text)

    def test_numbers(self):
        for number in ("00", "01", "007", "1000", "0001", "9999", "-1", "-0", "+1", "1.", "1,", "a", "", "1a", "0x1", "\u0661", "\u00b2", ":", "1:"):
            self.refused(f"0: > {number}")
            self.refused(f"0: a > 1 {number}")
            self.refused(f"0: a > {number} 2")

    def test_words_that_are_no_names(self):
        for word in ("A", "aB", "abcdefg", "and", "or", "not", "then", "a1", "1", "a,", "a.", "{a}", "(a)", "", "a-b", "\u00e4", ":", "0:", "<"):
            self.refused(f"0: {word} >")
            self.refused(f"0: a {word} > 1")
            self.refused(f"0: {word} b >")

    def test_the_sign(self):
        for text in ("0:", "0: a", "0: a 1", "0: 1", "0: > >", "0: > > 1", "0: a > b", "0: 1 > a", "0: a >> 1", "0: a < 1", "0: > 1 >", "> 0:", ">", "a >", "0 >"):
            self.refused(text)

    def test_rows_out_of_turn(self):
        for text in (
            "1: >", "0: >\n0: >", "0: >\n2: >", "1: >\n0: >", "0: >\n1: >\n1: >", "00: >", "0: >\n01: >", "-1: >", "+0: >", ": >", "a: >", "0:: >", "0. >",
            "0; >", "0: 0: >", "0: > 0: >",
        ):
            self.refused(text)

    def test_line_feeds(self):
        self.refused("\n")
        self.refused(TEXT + "\n")
        self.refused("\n" + TEXT)
        self.refused("0: >\n")
        self.refused("0: >\n\n1: >")
        self.refused("0: >\n \n1: >")
        for at in range(len(TEXT) + 1):
            self.refused(TEXT[:at] + "\n" + TEXT[at:])
            if TEXT[at:at + 1] == " ":
                self.refused(TEXT[:at] + "\n" + TEXT[at + 1:])
            if TEXT[at:at + 1] == "\n":
                self.refused(TEXT[:at] + TEXT[at + 1:])
                self.refused(TEXT[:at] + " " + TEXT[at + 1:])

    def test_what_is_no_text(self):
        for thing in NO_TEXTS:
            self.refused(thing)


if __name__ == "__main__":
    unittest.main()
