import copy
import string
import unittest

from helper import A, B, C, TWO_SIDED, chain, edge_sayings, small_sayings
from talkcourt.sayings import is_name, is_saying, names_in, parts_of, size

NO_TEXTS = (0, 1, -3, 2.5, True, False, None, [], ["a"], (), ("a",), {}, {"a": 1}, b"a", b"", object(), {"a"})
NO_NAMES = (
    "", "abcdefg", "abcdefgh", "a" * 6000, "A", "aB", "Abc", "abC", "1", "a1", "1a", " ", " a", "a ", "a b", "\n", "a\n",
    "\ta", "a_b", "_", "a-b", "(", "(a)", "a'", "\u00e9", "\u00df", "a\u00e9", "\u0430", "\u00aa", "and", "or", "not", "then",
)
NAMES = (
    "a", "z", "m", "az", "abc", "abcdef", "zzzzzz", "andy", "sand", "band", "ora", "for", "orand", "nota", "knot", "notnot",
    "thena", "athen", "thenot", "an", "no", "the", "hen", "if", "say", "left", "right", "which", "begin", "any", "o",
)


def counted(saying):
    """How many bare sayings and words a saying has, by its own printed form."""
    printed = repr(saying)
    return sum(printed.count(f"('{word}', ") for word in ("say", "not", "and", "or", "if"))


class Names(unittest.TestCase):
    def test_names(self):
        for name in NAMES + tuple(string.ascii_lowercase):
            with self.subTest(name=name):
                self.assertIs(is_name(name), True)

    def test_texts_that_are_none(self):
        for text in NO_NAMES:
            with self.subTest(text=text):
                self.assertIs(is_name(text), False)

    def test_each_sign_but_small_letters_spoils_a_name(self):
        for code in range(0, 400):
            sign = chr(code)
            for text in (sign, "a" + sign, sign + "b", "a" + sign + "b"):
                with self.subTest(text=text):
                    self.assertIs(is_name(text), sign in string.ascii_lowercase)

    def test_things_that_are_no_text(self):
        for thing in NO_TEXTS:
            with self.subTest(thing=thing):
                self.assertIs(is_name(thing), False)

    def test_lengths(self):
        for length in range(0, 20):
            with self.subTest(length=length):
                self.assertIs(is_name("q" * length), 1 <= length <= 6)


class Sayings(unittest.TestCase):
    def test_five_forms(self):
        for saying in (A, ("not", A), ("and", A, B), ("or", A, B), ("if", A, B), ("and", A, A)):
            with self.subTest(saying=saying):
                self.assertIs(is_saying(saying), True)

    def test_nested(self):
        for saying in small_sayings(5) + edge_sayings():
            self.assertIs(is_saying(saying), True, saying)

    def wrong_things(self):
        yield from NO_TEXTS
        yield from ("", "a", "say", "not a", (None,), (A,), ((), ()), (A, B), (A, A, B), ("",), ("", A), ("", A, B))
        for name in NO_NAMES + NO_TEXTS:
            yield ("say", name)
        yield from (("say",), ("say", A), ("say", "a", "b"), ("say", "a", None), ["say", "a"], ("name", "a"))
        yield from (("not",), ("not", A, B), ("not", "a"), ["not", A], ("Not", A), ("not ", A))
        for word in TWO_SIDED:
            yield from ((word,), (word, A), (word, A, B, C), (word, A, B, ()), [word, A, B], (word.upper(), A, B))
            yield from ((word, "a", "b"), (word, A, "b"), (word, "a", B), (word, (A, B)))
        for word in ("then", "but", "begin", "left", "which", 0, 1, True, None, b"and", ["and"], ("and",), A):
            yield from ((word, A), (word, A, B))
        for thing in NO_TEXTS + ("a", ["say", "a"], ["not", A], ["and", A, B], list(A), ("say", "A"), ("say", "not")):
            yield from (("not", thing), [thing], (thing,))
            for word in TWO_SIDED:
                yield from ((word, thing, A), (word, A, thing), (word, thing, thing))

    def test_things_that_are_none(self):
        for thing in self.wrong_things():
            with self.subTest(thing=thing):
                self.assertIs(is_saying(thing), False)

    def test_things_that_are_none_deep_within(self):
        for thing in self.wrong_things():
            for word in TWO_SIDED:
                for leaning in ("left", "right"):
                    self.assertIs(is_saying(chain(word, 12, leaning, end=thing)), False, thing)
            self.assertIs(is_saying(chain("not", 19, "left", end=thing)), False, thing)
            self.assertIs(is_saying(("and", chain("or", 4, "right"), ("if", ("not", thing), A))), False, thing)

    def test_far_deeper_than_any_bound(self):
        deep = chain("not", 3000, "left")
        self.assertIs(is_saying(deep), True)
        self.assertIs(is_saying(chain("and", 3000, "left", end=1)), False)
        self.assertEqual(size(deep), 3001)

    def test_what_is_asked_of_stays_as_it_was(self):
        for thing in (["say", "a"], ["and", A, ["not", B]], ("not", ["say", "a"]), {"say": ["a"]}):
            before = copy.deepcopy(thing)
            is_saying(thing)
            is_name(thing)
            self.assertEqual(thing, before)


class Parts(unittest.TestCase):
    def test_size(self):
        for saying, many in (
            (A, 1),
            (("not", A), 2),
            (("not", ("not", A)), 3),
            (("and", A, B), 3),
            (("or", A, A), 3),
            (("if", A, ("not", A)), 4),
            (("and", ("or", A, B), ("or", A, B)), 7),
            (("if", ("not", ("and", A, A)), ("if", A, ("or", B, A))), 10),
        ):
            with self.subTest(saying=saying):
                self.assertEqual(size(saying), many)

    def test_size_of_many(self):
        for saying in small_sayings(5) + edge_sayings():
            self.assertEqual(size(saying), counted(saying), saying)

    def test_size_at_the_edges(self):
        self.assertEqual(size(chain("not", 20, "left")), 21)
        for word in TWO_SIDED:
            for leaning in ("left", "right"):
                self.assertEqual(size(("not", chain(word, 19, leaning))), 40)

    def test_names_in(self):
        for saying, names in (
            (A, ["a"]),
            (("not", C), ["c"]),
            (("and", B, A), ["a", "b"]),
            (("or", A, A), ["a"]),
            (("if", ("and", C, A), ("or", ("not", B), ("if", C, C))), ["a", "b", "c"]),
            (("and", ("say", "zz"), ("and", ("say", "z"), ("say", "abcdef"))), ["abcdef", "z", "zz"]),
            (("and", ("say", "say"), ("say", "if")), ["if", "say"]),
        ):
            with self.subTest(saying=saying):
                self.assertEqual(names_in(saying), names)

    def test_parts_of(self):
        both, other = ("and", A, B), ("not", A)
        for saying, parts in (
            (A, [A]),
            (other, [other, A]),
            (both, [both, A, B]),
            (("and", B, A), [("and", B, A), A, B]),
            (("or", A, A), [("or", A, A), A]),
            (("or", both, both), [both, ("or", both, both), A, B]),
            (("if", ("if", A, B), ("if", A, B)), [("if", ("if", A, B), ("if", A, B)), ("if", A, B), A, B]),
            (("if", other, ("or", other, B)), [("if", other, ("or", other, B)), other, ("or", other, B), A, B]),
            (("if", B, ("or", A, B)), [("if", B, ("or", A, B)), ("or", A, B), A, B]),
            (("not", ("not", A)), [("not", ("not", A)), ("not", A), A]),
        ):
            with self.subTest(saying=saying):
                self.assertEqual(parts_of(saying), parts)

    def collected(self, saying):
        sides = [] if saying[0] == "say" else saying[1:]
        return {saying}.union(*[self.collected(side) for side in sides])

    def test_parts_and_names_of_many(self):
        for saying in small_sayings(5) + edge_sayings():
            parts = sorted(self.collected(saying))
            self.assertEqual(parts_of(saying), parts)
            self.assertEqual(names_in(saying), [part[1] for part in parts if part[0] == "say"])

    def test_lists_told_are_the_askers_own(self):
        saying = ("if", ("and", B, A), ("and", B, A))
        for ask in (names_in, parts_of):
            told = ask(saying)
            self.assertIsInstance(told, list)
            kept = list(told)
            told.append("more")
            told.reverse()
            self.assertEqual(ask(saying), kept)
            ask(saying).clear()
            self.assertEqual(ask(saying), kept)
            self.assertIsNot(ask(saying), ask(saying))


if __name__ == "__main__":
    unittest.main()
