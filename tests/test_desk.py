"""The desk: rows told, answers as texts, refusals in their order."""

import random
import unittest

from helper import books_let_by, small_sayings, some_program, some_saying
from talkcourt.books import free, strict
from talkcourt.booktexts import show_book
from talkcourt.desk import Desk
from talkcourt.errors import NoBook, NoName, NoRow, NoTalker, NoText, NotLet, TalkError
from talkcourt.judge import judged
from talkcourt.papertexts import read_paper, show_paper
from talkcourt.programtexts import read_program, show_program
from talkcourt.sayings import parts_of, size
from talkcourt.sayread import read_saying
from talkcourt.saywrite import show_saying
from talkcourt.showing import paper_of
from talkcourt.talkers import always, play
from talkcourt.talktexts import show_talk
from talkcourt.weaving import truth_of, web_of
from talkcourt.webtexts import read_web, show_web

FREE = "first answers any often|first doubts often|first speaks any|other speaks last"
STRICT = "first answers last once|first doubts often|first speaks any|other speaks last"
NOT_LET = "first answers any often|first doubts often|first speaks any|other speaks any"
NAMES = (
    "a", "book", "saying", "talker", "judge", "plan", "paper", "web", "truth", "always", "play", "first", "other", "ok", "none", "wins", "loses",
    "true", "false", "text", "name", "abcdef", "if", "so", "move", "any",
)
NO_NAMES = ("", "A", "abcdefg", "and", "or", "not", "then", "a1", "1", "a|b", "|", "a-b", "a:", "{a}", "(a)", "\u00e4", "a\t")


def in_one_row(text):
    return text.replace("\n", "|")


def expected_answers(book, saying):
    """What the functions tell of a saying, as the desk should."""
    told = judged(book, saying)
    side, plan = judged(strict(), saying)[:2]
    by_free = judged(free(), saying)
    return {
        "judge": f"first {told[2]}" if told[0] == "first" else "other",
        "plan": str(len(told[1])),
        "paper": in_one_row(show_paper(paper_of(saying, plan))) if side == "first" else "none",
        "web": in_one_row(show_web(web_of(saying, plan))) if side == "other" else "none",
        "truth": "true" if by_free[0] == "first" else " ".join(("false",) + truth_of(saying, by_free[1])),
    }


class Told(unittest.TestCase):
    def test_by_hand(self):
        desk = Desk()
        for row, answer in (
            ("saying a a then a", "ok"), ("judge a", "first 2"), ("plan a", "2"), ("web a", "none"), ("truth a", "true"),
            ("paper a", "0. {a} so {a} by given|1. so {a then a} by then 0"),
            ("saying b a or not a", "ok"), ("judge b", "other"), ("plan b", "2"), ("paper b", "none"), ("web b", "0: > 1|1: a >"), ("truth b", "true"),
            (f"book {FREE}", "ok"), ("judge b", "first 3"), ("judge a", "first 2"), ("paper b", "none"), ("web b", "0: > 1|1: a >"),
            ("saying c a and b then c", "ok"), ("truth c", "false a b"), ("saying c a", "ok"), ("truth c", "false"), ("judge c", "other"), ("plan c", "0"),
            ("web c", "0: >"), (f"book {STRICT}", "ok"), ("judge b", "other"),
            ("talker t any : move 0", "ok"), ("always a first t", "wins"),
            ("always a other t", "loses first answer begin {a then a} with {a then a}|other doubt if|first answer if {a then a} with {a}"),
            ("play a t t", "first first answer begin {a then a} with {a then a}|other doubt if|first answer if {a then a} with {a}"),
            # A program without rows gives up at once; its talk is the text without signs.
            ("talker u ", "ok"), ("always a first u", "loses "), ("always a other u", "loses first answer begin {a then a} with {a then a}"),
            ("play a u t", "other "), ("play a t u", "first first answer begin {a then a} with {a then a}"), ("always c other u", "wins"),
            ("talker u said {a} : answer {a}|any : answer {a then a}", "ok"), ("always a first u", "wins"),
        ):
            self.assertEqual(desk.say(row), answer, row)

    def test_strokes_and_blanks_in_texts(self):
        desk = Desk()
        for row in (
            "saying a  a  then   a ", "saying a a|then|a", "saying a |a then a|", "saying a (a)then(a)", "book   first doubts often ||" + FREE.replace("first doubts often|", ""),
            "talker t   any  :  move 0 ", "talker t any : move 0| said {a} : answer { a }", "book " + "|".join(FREE.split("|")[::-1]), f"book |{STRICT}|",
        ):
            self.assertEqual(desk.say(row), "ok", row)
        self.assertEqual(desk.say("judge a"), "first 2")

    def test_the_same_as_the_functions(self):
        dice = random.Random(101)
        desk = Desk()
        sayings = small_sayings(3) + [some_saying(dice, many, "abc") for many in (5, 6, 7, 8) for _ in range(6)]
        for saying in sayings:
            self.assertEqual(desk.say(f"saying s {show_saying(saying)}"), "ok")
            for book in dice.sample(books_let_by(), 4):
                self.assertEqual(desk.say(f"book {in_one_row(show_book(book))}"), "ok")
                for sort, answer in expected_answers(book, saying).items():
                    told = desk.say(f"{sort} s")
                    self.assertIsInstance(told, str)
                    self.assertEqual(told, answer, (sort, saying))
                    self.assertEqual(desk.say(f"{sort} s"), answer)
                self.talkers(desk, book, saying, dice)

    def talkers(self, desk, book, saying, dice):
        programs = [some_program(dice, parts_of(saying), dice.randint(0, 5)) + ((("any",), ("move", 1)),) * many for many in (0, 1)]
        for name, program in zip(("one", "two"), programs):
            self.assertEqual(desk.say(f"talker {name} {in_one_row(show_program(program))}"), "ok")
            for side in ("first", "other"):
                end, rest = always(book, saying, side, program)
                answer = "wins" if end == "wins" else "loses " + in_one_row(show_talk(rest))
                self.assertEqual(desk.say(f"always s {side} {name}"), answer)
        for one in (0, 1):
            for other in (0, 1):
                winner, talk = play(book, saying, programs[one], programs[other])
                row = "play s " + " ".join((("one", "two")[one], ("one", "two")[other]))
                self.assertEqual(desk.say(row), f"{winner} {in_one_row(show_talk(talk))}")

    def test_what_is_told_is_read_again(self):
        desk = Desk()
        for text in ("not not (a or not a)", "a and b then b and a"):
            desk.say(f"saying s {text}")
            paper = read_paper(desk.say("paper s").replace("|", "\n"))
            self.assertEqual(paper[-1][:2], ((), read_saying(text)))
        desk.say("saying s (a then b) or (b then a)")
        self.assertIsInstance(read_web(desk.say("web s").replace("|", "\n")), tuple)

    def test_two_desks(self):
        one, two = Desk(), Desk()
        one.say("saying a a or not a")
        one.say(f"book {FREE}")
        one.say("talker t any : move 0")
        with self.assertRaises(NoName):
            two.say("judge a")
        two.say("saying a a or not a")
        self.assertEqual(two.say("judge a"), "other")
        self.assertEqual(one.say("judge a"), "first 3")
        with self.assertRaises(NoName):
            two.say("always a first t")
        two.say("saying a a then a")
        self.assertEqual(one.say("judge a"), "first 3")

    def test_kept_anew(self):
        desk = Desk()
        desk.say("saying a a")
        desk.say("talker a ")
        self.assertEqual(desk.say("judge a"), "other")
        self.assertEqual(desk.say("always a first a"), "loses ")
        desk.say("saying a a then a")
        self.assertEqual(desk.say("judge a"), "first 2")
        self.assertEqual(desk.say("always a first a"), "loses ")
        desk.say("talker a any : move 0")
        self.assertEqual(desk.say("always a first a"), "wins")
        self.assertEqual(desk.say("judge a"), "first 2")

    def test_names_that_are_words_of_the_desk(self):
        for name in NAMES:
            desk = Desk()
            self.assertEqual(desk.say(f"saying {name} a then a"), "ok")
            with self.assertRaises(NoName) as caught:
                desk.say(f"always {name} first {name}")
            self.assertEqual(caught.exception.name, name)
            self.assertEqual(desk.say(f"talker {name} any : move 0"), "ok")
            self.assertEqual(desk.say(f"judge {name}"), "first 2")
            self.assertEqual(desk.say(f"always {name} first {name}"), "wins")
            self.assertEqual(desk.say(f"play {name} {name} {name}")[:6], "first ")


class Refused(unittest.TestCase):
    def setUp(self):
        self.desk = Desk()
        for row in ("saying a a or not a", "saying b a then a", "talker t any : move 0", "talker u said {a} : answer {a}"):
            self.desk.say(row)
        self.ahead = self.answers()

    def answers(self):
        rows = ("judge a", "plan a", "web a", "paper b", "judge b", "truth a", "always b first t", "always b first u", "play a t u", "play b u t")
        return [self.desk.say(row) for row in rows]

    def refused(self, told, error, **values):
        with self.assertRaises(TalkError, msg=repr(told)) as caught:
            self.desk.say(told)
        self.assertIs(type(caught.exception), error, repr(told))
        self.assertIsInstance(caught.exception, ValueError)
        self.assertEqual({key: getattr(caught.exception, key) for key in values}, values, repr(told))
        self.assertEqual(self.answers(), self.ahead, told)

    def test_what_is_none_of_these(self):
        for row in (
            "", " ", "  ", "|", "a", "judge", "plan", "paper", "web", "truth", "always", "play", "book", "saying", "talker", "saying a", "talker t",
            "saying ", "talker ", "judge a b", "plan a b", "paper a b", "web a b", "truth a b", "always a", "always a first", "always a first t u",
            "play a", "play a t", "play a t u t", "Judge a", "JUDGE a", " judge a", "judges a", "judge\ta", "judge\na", "judge|a", "judged a", "ok", "none",
            "book|", f"book|{FREE}", "always a third t", "always a First t", "always a t first", "always first a t", "always a  t", "always a other|t",
            "say a", "names", "help", "always x third y", "always A third B", "booka", "sayinga a a", "say", "quit", "first answers any often",
        ):
            self.refused(row, NoRow)

    def test_two_blanks_or_one_at_the_end(self):
        # One word too many, though it has no signs.
        for row in (
            "judge  a", "judge a ", "judge  ", "plan  a", "paper a ", "web  a", "truth a ", "always  a first t", "always a first  t", "always a first t ",
            "play  a t u", "play a  t u", "play a t u ", "always a  first t", "  judge a",
        ):
            self.refused(row, NoRow)
        # As many words as there should be, one of which has no signs.
        for row in (
            "judge ", "plan ", "paper ", "web ", "truth ", "always  first t", "always a first ", "play  t u", "play a  u", "play a t ", "play   ",
            "saying  a", "saying  a then a", "talker  any : move 0", "saying   ", "talker  ",
        ):
            self.refused(row, NoName, name="")
        self.refused("always    ", NoRow)
        self.refused("always   ", NoRow)

    def test_what_is_no_text(self):
        for thing in (None, 0, 1, True, b"judge a", ["judge a"], ("judge", "a"), {}, 1.5, object()):
            self.refused(thing, NoRow)

    def test_names_that_are_none(self):
        for name in NO_NAMES:
            for row in (f"saying {name} a then a", f"talker {name} any : move 0", f"judge {name}", f"plan {name}", f"paper {name}", f"web {name}"):
                self.refused(row, NoName, name=name)
            for row in (f"truth {name}", f"always {name} first t", f"always a other {name}", f"play {name} t u", f"play a {name} u", f"play a t {name}"):
                self.refused(row, NoName, name=name)

    def test_names_that_are_not_kept(self):
        for name in ("c", "x", "book", "first", "aa", "t", "u"):
            for sort in ("judge", "plan", "paper", "web", "truth"):
                self.refused(f"{sort} {name}", NoName, name=name)
            self.refused(f"always {name} first t", NoName, name=name)
            self.refused(f"play {name} t u", NoName, name=name)
        for name in ("c", "x", "talker", "other", "a", "b"):
            self.refused(f"always a first {name}", NoName, name=name)
            self.refused(f"play a {name} u", NoName, name=name)
            self.refused(f"play a t {name}", NoName, name=name)

    def test_from_the_left(self):
        for row, name in (
            ("always x first y", "x"), ("always X first y", "X"), ("always x first Y", "x"), ("always a first Y", "Y"), ("play x y z", "x"), ("play a y z", "y"),
            ("play a Y z", "Y"), ("play a t z", "z"), ("play a a b", "a"), ("play t u a", "t"), ("play  X Y", ""), ("always and other or", "and"),
        ):
            self.refused(row, NoName, name=name)

    def test_what_reading_refuses(self):
        for text in ("", " ", "a b", "a and", "A", "(a", "a)", "not", "a|b", "|", "a then then b", "abcdefg", "{a}", "toolong then a"):
            self.refused(f"saying a {text}", NoText)
            self.refused(f"saying new {text}", NoText)
        for text, row in (("any", 0), ("any : move 0|any", 1), ("any : move 0|", 1), (" ", 0), ("|", 0), ("any : move 0|any : move 1|said {} : move 0", 2), ("any : move 01", 0)):
            self.refused(f"talker t {text}", NoTalker, row=row)
            self.refused(f"talker new {text}", NoTalker, row=row)
        for text, row in (
            ("", 2), (" ", 2), ("|", 3), ("strict", 1), (FREE.replace("any", "all", 1), 1), (FREE + "|first doubts once", 5), ("|".join(FREE.split("|")[:3]), 4),
            ("first doubts often||first doubts often", 3), (FREE + "|x", 5), ("a", 1), (FREE.replace("|", " "), 1),
        ):
            self.refused(f"book {text}", NoBook, row=row)
        self.refused("book  ", NoBook, row=2)
        for row in ("judge new", "always a first new"):
            self.refused(row, NoName, name="new")

    def test_a_name_ahead_of_the_text(self):
        self.refused("saying A a b", NoName, name="A")
        self.refused("talker A any", NoName, name="A")
        self.refused("saying and a and a and a and a and a", NoName, name="and")
        self.refused("saying  ", NoName, name="")

    def test_a_book_that_is_not_let_by(self):
        self.refused(f"book {NOT_LET}", NotLet)
        self.refused(f"book {NOT_LET}|x", NoBook, row=5)
        self.refused(f"book {NOT_LET}|", NotLet)

    def test_a_saying_with_nine_parts(self):
        nine = "a and b and c and (d and e)"
        self.assertEqual(size(read_saying(nine)), 9)
        for text in (nine, "not not not not not not not not a", "not (" + nine + ")", " then ".join(["a"] * 20)):
            self.refused(f"saying a {text}", NoRow)
            self.refused(f"saying new {text}", NoRow)
        self.refused(f"saying A {nine}", NoName, name="A")
        self.refused(f"saying a {nine} and", NoText)
        for eight in ("not (a and b and c and d)", "not not not not not not not a", "((((not (a and b and (c and d))))))"):
            self.assertEqual(size(read_saying(eight)), 8)
            self.assertEqual(Desk().say(f"saying a {eight}"), "ok")

    def test_programs_are_not_bound_by_parts(self):
        nine = "a and b and c and (d and e)"
        self.assertEqual(Desk().say(f"talker t said {{{nine}}} : move 0"), "ok")
        self.assertEqual(read_program(f"said {{{nine}}} : move 0")[0][0][0], "said")


if __name__ == "__main__":
    unittest.main()
