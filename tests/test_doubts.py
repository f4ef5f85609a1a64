import unittest

from helper import A, B, C, edge_sayings, small_sayings
from talkcourt.doubts import answers_to, doubts_of, said_by

NOT, AND, OR, IF = ("not", A), ("and", B, A), ("or", B, A), ("if", B, A)


class Doubts(unittest.TestCase):
    def test_doubts_of_each_sort(self):
        for saying, words in ((A, []), (NOT, ["not"]), (AND, ["left", "right"]), (OR, ["which"]), (IF, ["if"])):
            with self.subTest(saying=saying):
                self.assertEqual(doubts_of(saying), words)

    def test_answers_to_each_word(self):
        for doubt, answers in (
            (("left", AND), [B]),
            (("right", AND), [A]),
            (("which", OR), [A, B]),
            (("which", ("or", A, B)), [A, B]),
            (("which", ("or", A, A)), [A]),
            (("which", ("or", OR, OR)), [OR]),
            (("which", ("or", A, NOT)), [NOT, A]),
            (("which", ("or", ("if", A, B), ("and", A, B))), [("and", A, B), ("if", A, B)]),
            (("if", IF), [A]),
            (("if", ("if", A, NOT)), [NOT]),
            (("not", NOT), []),
            (("not", ("not", NOT)), []),
            (("begin", A), [A]),
            (("begin", NOT), [NOT]),
            (("begin", AND), [AND]),
            (("begin", OR), [OR]),
            (("begin", IF), [IF]),
            (("left", ("and", A, A)), [A]),
            (("right", ("and", ("and", A, B), C)), [C]),
        ):
            with self.subTest(doubt=doubt):
                self.assertEqual(answers_to(doubt), answers)

    def test_said_by_each_word(self):
        for doubt, saying in (
            (("left", AND), None),
            (("right", AND), None),
            (("which", OR), None),
            (("if", IF), B),
            (("if", ("if", NOT, A)), NOT),
            (("not", NOT), A),
            (("not", ("not", AND)), AND),
            (("begin", A), None),
            (("begin", NOT), None),
            (("begin", AND), None),
            (("begin", IF), None),
        ):
            with self.subTest(doubt=doubt):
                self.assertEqual(said_by(doubt), saying)

    def test_of_many_sayings(self):
        for saying in small_sayings(5) + edge_sayings():
            sort, sides = saying[0], list(saying[1:])
            words = {"say": [], "not": ["not"], "and": ["left", "right"], "or": ["which"], "if": ["if"]}[sort]
            self.assertEqual(doubts_of(saying), words)
            answers = {"left": sides[:1], "right": sides[1:], "if": sides[1:], "not": []}
            if sort == "or":
                answers["which"] = sorted(sides[:1] if sides[0] == sides[1] else sides)
            for word in words:
                self.assertEqual(answers_to((word, saying)), answers[word])
                self.assertEqual(said_by((word, saying)), sides[0] if word in ("if", "not") else None)
            self.assertEqual(answers_to(("begin", saying)), [saying])
            self.assertIsNone(said_by(("begin", saying)))

    def test_lists_told_are_the_askers_own(self):
        for saying in (A, NOT, AND, OR, IF):
            kept = list(doubts_of(saying))
            told = doubts_of(saying)
            self.assertIsInstance(told, list)
            told.append("more")
            told.reverse()
            self.assertEqual(doubts_of(saying), kept)
            for word in kept + ["begin"]:
                kept_answers = list(answers_to((word, saying)))
                told = answers_to((word, saying))
                self.assertIsInstance(told, list)
                told.append("more")
                told.reverse()
                self.assertEqual(answers_to((word, saying)), kept_answers)


if __name__ == "__main__":
    unittest.main()
