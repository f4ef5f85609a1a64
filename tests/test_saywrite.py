import unittest

from helper import A, B, C, TWO_SIDED, chain, edge_sayings, small_sayings
from talkcourt.sayread import read_saying
from talkcourt.saywrite import show_saying

NOT, AND, OR, IF = ("not", A), ("and", A, B), ("or", A, B), ("if", A, B)

WRITTEN = (
    (A, "a"),
    (("say", "abcdef"), "abcdef"),
    (NOT, "not a"),
    (AND, "a and b"),
    (OR, "a or b"),
    (IF, "a then b"),
    (("not", NOT), "not not a"),
    (("not", AND), "not (a and b)"),
    (("not", OR), "not (a or b)"),
    (("not", IF), "not (a then b)"),
    (("and", NOT, C), "not a and c"),
    (("and", C, NOT), "c and not a"),
    (("and", AND, C), "a and b and c"),
    (("and", C, AND), "c and (a and b)"),
    (("and", OR, C), "(a or b) and c"),
    (("and", C, OR), "c and (a or b)"),
    (("and", IF, C), "(a then b) and c"),
    (("and", C, IF), "c and (a then b)"),
    (("or", NOT, C), "not a or c"),
    (("or", C, NOT), "c or not a"),
    (("or", AND, C), "a and b or c"),
    (("or", C, AND), "c or a and b"),
    (("or", OR, C), "a or b or c"),
    (("or", C, OR), "c or (a or b)"),
    (("or", IF, C), "(a then b) or c"),
    (("or", C, IF), "c or (a then b)"),
    (("if", NOT, C), "not a then c"),
    (("if", C, NOT), "c then not a"),
    (("if", AND, C), "a and b then c"),
    (("if", C, AND), "c then a and b"),
    (("if", OR, C), "a or b then c"),
    (("if", C, OR), "c then a or b"),
    (("if", IF, C), "(a then b) then c"),
    (("if", C, IF), "c then a then b"),
    (("and", ("not", AND), ("not", OR)), "not (a and b) and not (a or b)"),
    (("not", ("and", IF, ("and", A, IF))), "not ((a then b) and (a and (a then b)))"),
    (("if", ("or", ("and", NOT, B), C), ("if", OR, IF)), "not a and b or c then a or b then a then b"),
)


def without_one_pair(text):
    """Each text that is left when one pair of brackets is taken out of this one."""
    begun = []
    for at, sign in enumerate(text):
        if sign == "(":
            begun.append(at)
        elif sign == ")":
            start = begun.pop()
            yield text[:start] + text[start + 1:at] + text[at + 1:]


class Writing(unittest.TestCase):
    def test_each_under_each_on_either_side(self):
        for saying, text in WRITTEN:
            with self.subTest(text=text):
                self.assertEqual(show_saying(saying), text)

    def test_chains(self):
        for word, written in (("and", "and"), ("or", "or"), ("if", "then")):
            with self.subTest(word=word):
                self.assertEqual(
                    show_saying(chain(word, 3, "left")),
                    f"((b {written} a) {written} a) {written} a" if word == "if" else f"b {written} a {written} a {written} a",
                )
                self.assertEqual(
                    show_saying(chain(word, 3, "right")),
                    f"a {written} a {written} a {written} b" if word == "if" else f"a {written} (a {written} (a {written} b))",
                )

    def test_read_again_it_is_the_saying(self):
        for saying in small_sayings(6) + edge_sayings():
            self.assertEqual(read_saying(show_saying(saying)), saying)

    def test_no_brackets_but_those_that_must_be(self):
        for saying in small_sayings(6, ("a",)) + edge_sayings():
            text = show_saying(saying)
            for shorter in without_one_pair(text):
                self.assertNotEqual(read_saying(shorter), saying, text)

    def test_one_blank_between_words_and_none_within_brackets(self):
        for saying in small_sayings(6, ("a",)) + edge_sayings():
            text = show_saying(saying)
            words = text.replace("(", "").replace(")", "").split(" ")
            self.assertTrue(all(word.isalpha() for word in words), text)
            self.assertNotIn("( ", text)
            self.assertNotIn(" )", text)

    def test_at_the_edges(self):
        self.assertEqual(show_saying(chain("not", 20, "left")), "not " * 20 + "b")
        self.assertEqual(show_saying(chain("and", 20, "left")), "b" + " and a" * 20)
        self.assertEqual(show_saying(chain("and", 20, "right")), "a and (" * 19 + "a and b" + ")" * 19)
        self.assertEqual(show_saying(chain("or", 20, "left")), "b" + " or a" * 20)
        self.assertEqual(show_saying(chain("or", 20, "right")), "a or (" * 19 + "a or b" + ")" * 19)
        self.assertEqual(show_saying(chain("if", 20, "left")), "(" * 19 + "b then a" + ") then a" * 19)
        self.assertEqual(show_saying(chain("if", 20, "right")), "a then " * 20 + "b")

    def test_somewhat_beyond_the_edges(self):
        for word in TWO_SIDED + ("not",):
            for leaning in ("left", "right"):
                saying = chain(word, 300, leaning)
                self.assertEqual(read_saying(show_saying(saying)), saying)

    def test_the_same_again(self):
        for saying, text in WRITTEN:
            show_saying(saying)
            self.assertEqual(show_saying(saying), text)


if __name__ == "__main__":
    unittest.main()
