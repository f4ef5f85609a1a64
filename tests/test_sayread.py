import itertools
import unittest

from helper import A, B, C, chain
from talkcourt.errors import NoText
from talkcourt.sayread import read_saying
from talkcourt.saywrite import show_saying

READ = (
    ("a", A),
    ("abcdef", ("say", "abcdef")),
    ("not a", ("not", A)),
    ("not not a", ("not", ("not", A))),
    ("a and b and c", ("and", ("and", A, B), C)),
    ("a or b or c", ("or", ("or", A, B), C)),
    ("a then b then c", ("if", A, ("if", B, C))),
    ("a and (b and c)", ("and", A, ("and", B, C))),
    ("a or (b or c)", ("or", A, ("or", B, C))),
    ("(a then b) then c", ("if", ("if", A, B), C)),
    ("a or b and c", ("or", A, ("and", B, C))),
    ("a and b or c", ("or", ("and", A, B), C)),
    ("a then b or c", ("if", A, ("or", B, C))),
    ("a or b then c", ("if", ("or", A, B), C)),
    ("a then b and c", ("if", A, ("and", B, C))),
    ("a and b then c", ("if", ("and", A, B), C)),
    ("not a and b", ("and", ("not", A), B)),
    ("not a or b", ("or", ("not", A), B)),
    ("not a then b", ("if", ("not", A), B)),
    ("a and not b", ("and", A, ("not", B))),
    ("not (a and b)", ("not", ("and", A, B))),
    ("a then b then c and a or b", ("if", A, ("if", B, ("or", ("and", C, A), B)))),
    ("a or b and c or a", ("or", ("or", A, ("and", B, C)), A)),
    ("a then (b then c) then a", ("if", A, ("if", ("if", B, C), A))),
)

REFUSED = (
    "", " ", "     ", "\n", " \n \n ",
    "(", ")", "()", "( )", "(())", ")(", "(a", "a)", "((a)", "(a))", ")a(", "a) and (b", "(a and b", "a and b)", "a (", "a ()",
    "() a", "() and a", "a and ()", "not ()", "(a)(b)", "(a) (b)", "(a) b", "a (b)", "a(b)", "(a)b", "(a) not", "(a) not b",
    "a b", "a b c", "a not", "a not b", "a not and b", "not", "not not", "not and a", "not a b", "not a not b",
    "and", "or", "then", "a and", "and a", "a or", "or a", "a then", "then a", "a and and b", "a or and b", "a and or b",
    "a then then b", "a then and b", "a and then b", "and and and", "not and", "(and)", "(a and) b", "a (and b)", "(not) a",
    "abcdefg", "a and abcdefg", "notabcd", "anotherthing", "abcdef g", "a andb", "aand b", "a thenb",
    "A", "And", "a AND b", "a And b", "Not a", "a THEN b", "aB", "1", "a1", "1a", "a and 1", "a_b", "_", "a-b", "-a", "~a", "~",
    "a&b", "a & b", "a | b", "a, b", "a.", ".a", "a;", "a!", "!a", "a'", "'a'", "\"a\"", "[a]", "{a}", "{a", "a}", "<a>", "a > b",
    "a = b", "a + b", "a * b", "a / b", "a \\ b", "a @ b", "a # b", "a $ b", "a ^ b", "a ` b", "a : b", "a ? b", "a?b", "a#", "%",
    "\t", "a\tand b", "\ta", "a\t", "a\rand b", "\r\na", "a\x0b", "a\x0cand b", "a\u00a0and b", "\u00e9", "a and \u00e9", "\u0430",
    "a\u2003and b", "a\x1cand b", "a\x85and b", "\x00", "a\x00",
)

NO_TEXTS = (None, True, False, 0, 1, 7, 2.5, b"a", b"", [], ["a"], ("say", "a"), (), {}, {"a": 1}, object(), A)


class Slow:
    """Reads words by the document's own grammar, level by level; the words are known ones."""

    LEVELS = (("then", "if"), ("or", "or"), ("and", "and"))

    def __init__(self, words):
        self.words = list(words) + ["end"]
        self.at = 0

    def whole(self):
        saying = self.level(0)
        if self.words[self.at] != "end":
            raise NoText()
        return saying

    def level(self, deep):
        if deep == 3:
            return self.least()
        written, made = self.LEVELS[deep]
        sides = [self.level(deep + 1)]
        while self.words[self.at] == written:
            self.at += 1
            sides.append(self.level(deep + 1))
        if written == "then":
            sides.reverse()
            saying = sides[0]
            for side in sides[1:]:
                saying = (made, side, saying)
            return saying
        saying = sides[0]
        for side in sides[1:]:
            saying = (made, saying, side)
        return saying

    def least(self):
        word = self.words[self.at]
        self.at += 1
        if word == "not":
            return ("not", self.least())
        if word == "(":
            saying = self.level(0)
            if self.words[self.at] != ")":
                raise NoText()
            self.at += 1
            return saying
        if word in ("a", "b"):
            return ("say", word)
        raise NoText()


def answer_of(ask, thing):
    try:
        return ask(thing)
    except NoText:
        return "NoText"


class Reading(unittest.TestCase):
    def test_read(self):
        for text, saying in READ:
            with self.subTest(text=text):
                self.assertEqual(read_saying(text), saying)

    def test_all_short_rows_of_words(self):
        for many in range(0, 7):
            for words in itertools.product(("a", "not", "and", "or", "then", "(", ")"), repeat=many):
                expected = answer_of(lambda row: Slow(row).whole(), words)
                self.assertEqual(answer_of(read_saying, " ".join(words)), expected, words)

    def test_longer_rows_of_names_and_words(self):
        for words in itertools.product(("and", "or", "then"), repeat=5):
            for nots in itertools.product(("", "not "), repeat=3):
                row = "a"
                for at, word in enumerate(words):
                    row += f" {word} {nots[at % 3]}b"
                self.assertEqual(read_saying(row), Slow(row.split()).whole(), row)

    def test_blanks_and_line_feeds(self):
        plain = ("and", ("not", ("or", A, B)), C)
        words = ["not", "(", "a", "or", "b", ")", "and", "c"]
        for gap in (" ", "  ", "\n", "\n\n", " \n ", "\n \n"):
            for end in ("", " ", "\n", "   \n\n "):
                with self.subTest(gap=gap, end=end):
                    self.assertEqual(read_saying(end + gap.join(words) + end), plain)

    def test_no_blanks_beside_brackets(self):
        for text in ("not(a or b)and c", "not( a or b )and c", "(not(a or b))and(c)", "((not((a)or(b)))and(c))"):
            with self.subTest(text=text):
                self.assertEqual(read_saying(text), ("and", ("not", ("or", A, B)), C))
        self.assertEqual(read_saying("not(not(a))"), ("not", ("not", A)))
        self.assertEqual(read_saying("(\na\n)\nthen\n(\nb\n)"), ("if", A, B))

    def test_brackets_more(self):
        for text in ("(a)", "((a))", "( ( ( a ) ) )", "(" * 20 + "a" + ")" * 20):
            with self.subTest(text=text):
                self.assertEqual(read_saying(text), A)
        self.assertEqual(read_saying("((a) and (b)) and (c)"), ("and", ("and", A, B), C))
        self.assertEqual(read_saying("(a) then ((b) then (c))"), ("if", A, ("if", B, C)))
        self.assertEqual(read_saying("(not (a))"), ("not", A))

    def test_names_that_begin_or_end_with_a_word(self):
        for name in ("andy", "sand", "ora", "for", "nota", "knot", "thena", "athen", "notnot", "andor", "orthen"):
            bare = ("say", name)
            with self.subTest(name=name):
                self.assertEqual(read_saying(name), bare)
                self.assertEqual(read_saying(f"not {name}"), ("not", bare))
                self.assertEqual(read_saying(f"{name} and {name} then {name}"), ("if", ("and", bare, bare), bare))
                self.assertEqual(read_saying(f"({name})or({name})"), ("or", bare, bare))

    def test_refused(self):
        for text in REFUSED:
            with self.subTest(text=text), self.assertRaises(NoText):
                read_saying(text)

    def test_each_other_sign_is_refused(self):
        known = "abcdefghijklmnopqrstuvwxyz() \n"
        for code in range(0, 256):
            sign = chr(code)
            if sign in known:
                continue
            for text in (sign, f"a{sign}", f"{sign}a", f"a{sign}b", f"a and {sign}", f"a {sign} b", f"(a{sign})"):
                with self.subTest(text=text), self.assertRaises(NoText):
                    read_saying(text)

    def test_things_that_are_no_text(self):
        for thing in NO_TEXTS:
            with self.subTest(thing=thing), self.assertRaises(NoText):
                read_saying(thing)

    def test_long_texts(self):
        self.assertEqual(read_saying(" " * 3000 + "a" + "\n" * 2999), A)
        for text in ("(" * 6000, ")" * 6000, "a" * 6000, "not " * 1500, "a " * 3000, "(" * 2999 + "a" + ")" * 3000):
            with self.subTest(text=text[:9]), self.assertRaises(NoText):
                read_saying(text)

    def test_at_the_edges(self):
        self.assertEqual(read_saying("not " * 20 + "b"), chain("not", 20, "left"))
        self.assertEqual(read_saying("b" + " and a" * 20), chain("and", 20, "left"))
        self.assertEqual(read_saying("a and (" * 20 + "b" + ")" * 20), chain("and", 20, "right"))
        self.assertEqual(read_saying("b" + " or a" * 20), chain("or", 20, "left"))
        self.assertEqual(read_saying("a or (" * 20 + "b" + ")" * 20), chain("or", 20, "right"))
        self.assertEqual(read_saying("(" * 20 + "b" + ") then a" * 20), chain("if", 20, "left"))
        self.assertEqual(read_saying("a then " * 20 + "b"), chain("if", 20, "right"))

    def test_120_words_and_brackets(self):
        self.assertEqual(read_saying("not " * 119 + "b"), chain("not", 119, "left"))
        self.assertEqual(read_saying("a then " * 60 + "b"), chain("if", 60, "right"))
        self.assertEqual(read_saying("b" + " and a" * 60), chain("and", 60, "left"))

    def test_the_same_again(self):
        for text, saying in READ:
            self.assertEqual(read_saying(text), read_saying(text))
            self.assertEqual(read_saying(show_saying(saying)), saying)


if __name__ == "__main__":
    unittest.main()
