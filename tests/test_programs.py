"""Programs of talkers: what they are, when their conditions hold, and what they play."""

import itertools
import random
import unittest
from unittest import mock

from helper import (
    A, ANY, B, C, WORDS, books_let_by, every_condition, every_deed, fields, plain_graph, slow_moves, slow_replies, slow_told,
    small_sayings, some_condition,
)
from talkcourt.books import Book, free, strict
from talkcourt.programs import choice, holds, is_program
from talkcourt.sayread import read_saying
from talkcourt.standings import start

AND, OR, IF, NOT = ("and", A, B), ("or", A, B), ("if", A, B), ("not", A)
MOVE = ("move", 0)
# said, open, used, fresh; of parts of one saying.
STANDING = ((AND, NOT, A), (("begin", IF), ("which", OR)), (("left", AND),), (NOT, A))
NEVER = ("not", ANY)


class IsProgram(unittest.TestCase):
    def check(self, thing, expected):
        self.assertIs(is_program(thing), expected, thing)

    def condition(self, condition, expected):
        self.check(((condition, MOVE),), expected)
        self.check(((("not", condition), MOVE),), expected)
        for sort in ("and", "or"):
            self.check((((sort, condition, ANY), MOVE),), expected)
            self.check((((sort, ANY, condition), MOVE),), expected)
        self.check(((ANY, MOVE), (condition, MOVE)), expected)

    def deed(self, deed, expected):
        self.check(((ANY, deed),), expected)
        self.check(((ANY, MOVE), (ANY, deed)), expected)

    def test_every_condition_and_deed(self):
        for saying in (A, AND, OR, IF, NOT):
            for condition in every_condition(saying):
                self.condition(condition, True)
            for deed in every_deed(saying):
                self.deed(deed, True)

    def test_without_rows_and_with_many(self):
        self.check((), True)
        self.check(((ANY, MOVE),) * 31, True)

    def test_conditions_that_nest_deep(self):
        deep = ANY
        for number in range(3000):
            deep = ("not", deep) if number % 2 else ("and", deep, ANY)
        self.check(((deep, MOVE),), True)
        wrong = ("said", "a")
        for _ in range(3000):
            wrong = ("or", ANY, wrong)
        self.check(((wrong, MOVE),), False)

    def test_numbers(self):
        for number in (0, 1, 7, 10, 998, 999):
            self.deed(("move", number), True)
        for thing in (-1, 1000, 10 ** 30, True, False, None, "0", 0.0, 1.5, A, [1], (1,), b"1"):
            self.deed(("move", thing), False)

    def test_no_tuples_of_rows(self):
        row = (ANY, MOVE)
        for thing in (
            None, 0, True, "", "any : move 0", [], [row], {}, {row: row}, set(), {row}, b"", object(), is_program, 1.5,
            row, (row, None), (None,), ((),), (row, ()), ([ANY, MOVE],), ((ANY,),), ((ANY, MOVE, MOVE),), (row + (ANY,),),
            ((MOVE, ANY),), ((ANY, ANY),), ((MOVE, MOVE),), (row, row, [ANY, MOVE]), ((row,),), mock.ANY, (mock.ANY,),
            "ab", ("ab",), (("a", "b"),), (ANY,),
        ):
            self.check(thing, False)

    def test_no_conditions(self):
        for thing in (
            None, 0, True, "any", (), [], ["any"], ("any", A), ("any", ANY), ("all",), ("",), (None,), (0,), (b"any",), ("Any",),
            (["any"],), ({},), (ANY,), A, NOT, AND, ("say", "a"), ("move", 0), ("answer", A), ("begin", A), ("doubt", "if"),
            ("not",), ("not", ANY, ANY), ("not", A), ("not", "any"), ("not", ["any"]), ("and",), ("and", ANY), ("or", ANY),
            ("doubt", "left", AND), ("answer", "left", AND), ("told", A), ("", "if", IF), ("openx", "if", IF), ("begin", "if", IF),
            ("and", ANY, ANY, ANY), ("or", ANY, ANY, ANY), ("and", A, A), ("or", ANY, A), ("if", ANY, ANY), mock.ANY, (mock.ANY,),
        ):
            self.condition(thing, False)
        for sort in ("said", "fresh", "heard"):
            for rest in ((), (A, A), ("a",), (["say", "a"],), (("say", "A"),), (ANY,), ("if", A), ("if", IF), (None,), (mock.ANY,)):
                self.condition((sort,) + rest, False)
        for sort in ("open", "used", "asked", "answered"):
            for rest in (
                (), (A,), ("if",), (A, "if"), ("if", A, A), ("if", "a"), ("if", ["say", "a"]), ("if", ("say", "toolong")),
                ("IF", A), ("then", A), ("", A), ("say", A), ("any", A), (None, A), (["if"], A), (b"if", A), (mock.ANY, A),
                ("if", None), ("if", ("if", A)), (("if", A),),
            ):
                self.condition((sort,) + rest, False)

    def test_no_deeds(self):
        for thing in (
            None, 0, "move", (), [], ["move", 0], ("move",), ("move", 0, 0), ("Move", 0), (None, 0), (["move"], 0), (b"move", 0), ANY,
            ("answer",), ("answer", A, A), ("answer", "a"), ("answer", ["say", "a"]), ("answer", ("begin", A), A), ("answer", None),
            ("answer", ("say", "and")), ("answer", ("say", 1)), ("say", "a"), ("give", "up"), A, AND, mock.ANY, (mock.ANY, 0),
            ("doubt",), ("doubt", "begin"), ("doubt", "begin", A), ("doubt", "then"), ("doubt", ""), ("doubt", "LEFT"),
            ("doubt", None), ("doubt", ["if"]), ("doubt", A), ("doubt", A, "if"), ("doubt", "if", "a"), ("doubt", "if", None),
            ("doubt", "if", A, A), ("doubt", "if", ["say", "a"]), ("doubt", ("if", IF)), ("doubt", mock.ANY), ("doubt", "if", mock.ANY),
        ):
            self.deed(thing, False)


def slow_holds(condition, standing, move):
    """Whether a condition holds, by recursion."""
    sort, rest = condition[0], condition[1:]
    if sort in ("not", "and", "or"):
        truths = [slow_holds(part, standing, move) for part in rest]
        return {"not": not truths[0], "and": all(truths), "or": any(truths)}[sort]
    said, unanswered, used, fresh = standing
    return {
        "any": lambda: True,
        "said": lambda: rest[0] in said,
        "fresh": lambda: rest[0] in fresh,
        "open": lambda: rest in unanswered,
        "used": lambda: rest in used,
        "heard": lambda: move is not None and slow_told(move) == rest[0],
        "asked": lambda: move is not None and move == ("doubt",) + rest,
        "answered": lambda: move is not None and move[:2] == ("answer", rest),
    }[sort]()


class Holds(unittest.TestCase):
    def check(self, condition, move, expected, standing=STANDING):
        self.assertIs(holds(condition, standing, move), expected, (condition, move))
        self.assertIs(holds(("not", condition), standing, move), not expected)

    def test_without_a_move(self):
        for condition, expected in (
            (ANY, True), (("said", AND), True), (("said", A), True), (("said", B), False), (("said", OR), False),
            (("fresh", A), True), (("fresh", NOT), True), (("fresh", AND), False), (("fresh", B), False),
            (("open", "begin", IF), True), (("open", "which", OR), True), (("open", "begin", OR), False),
            (("open", "left", AND), False), (("open", "if", IF), False), (("used", "left", AND), True),
            (("used", "right", AND), False), (("used", "which", OR), False), (("used", "begin", IF), False),
        ):
            self.check(condition, None, expected)
            self.assertIs(holds(condition, STANDING), expected)
            self.check(condition, ("doubt", "left", AND), expected)

    def test_what_asks_for_a_move_without_one(self):
        for saying in (A, AND, OR, IF, NOT):
            for condition in every_condition(saying):
                if condition[0] in ("heard", "asked", "answered"):
                    self.assertIs(holds(condition, STANDING), False)
                    self.check(condition, None, False)

    def test_heard(self):
        for move, saying in (
            (("answer", ("begin", IF), IF), IF), (("answer", ("which", OR), A), A), (("doubt", "not", NOT), A),
            (("doubt", "if", IF), A), (("doubt", "left", AND), None), (("doubt", "which", OR), None),
        ):
            for asked in (A, B, C, AND, OR, IF, NOT):
                self.check(("heard", asked), move, asked == saying)

    def test_asked_and_answered(self):
        for move, doubt in ((("doubt", "left", AND), ("left", AND)), (("doubt", "not", NOT), ("not", NOT))):
            for asked in itertools.product(WORDS, (A, AND, NOT)):
                self.check(("asked",) + asked, move, asked == doubt)
                self.check(("answered",) + asked, move, False)
        for doubt, answer in ((("which", OR), A), (("begin", IF), IF)):
            for asked in itertools.product(WORDS, (A, OR, IF)):
                self.check(("answered",) + asked, ("answer", doubt, answer), asked == doubt)
                self.check(("asked",) + asked, ("answer", doubt, answer), False)

    def test_joined(self):
        for one, two in itertools.product((ANY, NEVER), (ANY, NEVER)):
            self.check(("and", one, two), None, one == ANY and two == ANY)
            self.check(("or", one, two), None, one == ANY or two == ANY)
        self.check(("and", ("or", NEVER, ANY), ("not", ("and", ANY, NEVER))), None, True)
        self.check(("or", ("and", ANY, NEVER), ("not", ("or", NEVER, ANY))), None, False)
        self.check(("and", ("said", A), ("not", ("said", B))), None, True)
        deep = ANY
        for _ in range(3001):
            deep = ("not", deep)
        self.check(deep, None, False)

    def test_by_chance(self):
        dice = random.Random(11)
        sayings = (A, B, AND, OR, IF, NOT)
        moves = [
            None, ("answer", ("begin", IF), IF), ("answer", ("which", OR), A), ("doubt", "not", NOT), ("doubt", "left", AND),
        ]
        met = {True: 0, False: 0}
        for _ in range(2000):
            condition, move = some_condition(dice, sayings, 5), dice.choice(moves)
            expected = slow_holds(condition, STANDING, move)
            met[expected] += 1
            self.check(condition, move, expected)
        self.assertGreater(min(met.values()), 300)


class Choice(unittest.TestCase):
    def first(self, program, expected, book=None, standing=None):
        book, standing = book or free(), standing or STANDING
        self.assertEqual(choice(program, book, standing), expected, program)
        self.assertEqual(choice(program, book, standing, None), expected, program)

    def other(self, program, move, expected):
        for book in books_let_by():
            self.assertEqual(choice(program, book, STANDING, move), expected, program)

    def test_answers_of_the_first(self):
        # Both doubts may be answered with a: the move that comes first in order is played.
        standing = ((A, B), (("left", AND), ("which", OR)), (), ())
        self.first(((ANY, ("answer", A)),), ("answer", ("left", AND), A), standing=standing)
        self.first(((ANY, ("answer", B)),), ("answer", ("which", OR), B), standing=standing)
        self.first(((ANY, ("answer", C)),), None, standing=standing)
        self.first(((ANY, ("answer", AND)),), None, standing=standing)

    def test_a_bare_answer_that_was_not_said(self):
        standing = ((B,), (("left", AND), ("which", OR)), (), ())
        self.first(((ANY, ("answer", A)),), None, standing=standing)
        self.first(((ANY, ("answer", A)), (ANY, ("answer", B))), ("answer", ("which", OR), B), standing=standing)

    def test_doubts_of_the_first(self):
        self.first(((ANY, ("doubt", "left", AND)),), ("doubt", "left", AND))
        self.first(((ANY, ("doubt", "not", NOT)),), ("doubt", "not", NOT))
        self.first(((ANY, ("doubt", "if", AND)),), None)
        self.first(((ANY, ("doubt", "which", OR)),), None)
        self.first(((ANY, ("doubt", "left")),), None)
        self.first(((ANY, ("doubt", "not")),), None)

    def test_what_the_book_lets(self):
        once = Book("any", "often", "once", "any")
        self.first(((ANY, ("doubt", "left", AND)),), None, book=once)
        self.first(((ANY, ("doubt", "right", AND)),), ("doubt", "right", AND), book=once)
        last = Book("any", "often", "often", "last")
        self.first(((ANY, ("doubt", "left", AND)),), None, book=last)
        self.first(((ANY, ("doubt", "not", NOT)),), ("doubt", "not", NOT), book=last)

    def test_moves_by_number(self):
        can = slow_moves(free(), STANDING)
        self.assertEqual(len(can), 5)
        for number in (0, 1, 2, 3, 4, 5, 6, 9, 10, 998, 999):
            self.first(((ANY, ("move", number)),), can[number % 5])
        for number in (0, 1, 999):
            self.first(((ANY, ("move", number)),), None, standing=((), (), (), ()))
            self.first(((ANY, ("move", number)),), None, standing=start(A))

    def test_deeds_of_the_other(self):
        asked = ("doubt", "which", OR)
        self.other(((ANY, ("answer", A)),), asked, ("answer", A))
        self.other(((ANY, ("answer", B)),), asked, ("answer", B))
        self.other(((ANY, ("answer", C)),), asked, None)
        self.other(((ANY, ("doubt", "which")),), asked, None)
        self.other(((ANY, ("doubt", "which", OR)),), asked, None)
        told = ("answer", ("begin", AND), AND)
        self.other(((ANY, ("doubt", "left")),), told, ("doubt", "left"))
        self.other(((ANY, ("doubt", "right")),), told, ("doubt", "right"))
        self.other(((ANY, ("doubt", "which")),), told, None)
        self.other(((ANY, ("doubt", "left", AND)),), told, None)
        self.other(((ANY, ("answer", AND)),), told, None)
        for number in (0, 1, 2, 3, 998, 999):
            self.other(((ANY, ("move", number)),), told, ("doubt", ("left", "right")[number % 2]))
            self.other(((ANY, ("move", number)),), asked, ("answer", (A, B)[number % 2]))
            self.other(((ANY, ("move", number)),), ("doubt", "not", NOT), None)
        use = ("doubt", "if", ("if", AND, B))
        replies = slow_replies(use)
        self.assertEqual(len(replies), 3)
        for number in range(7):
            self.other(((ANY, ("move", number)),), use, replies[number % 3])

    def test_the_first_row_that_holds_and_may_be(self):
        left, right, no = ("doubt", "left", AND), ("doubt", "right", AND), ("doubt", "not", NOT)
        self.first(((ANY, left), (ANY, right)), left)
        self.first(((NEVER, left), (ANY, right)), right)
        self.first(((ANY, ("doubt", "which", OR)), (ANY, right)), right)
        self.first(((("said", B), left), (("fresh", A), no), (ANY, right)), no)
        self.first(((NEVER, left), (ANY, ("answer", C)), (("heard", A), right)), None)
        told = ("answer", ("begin", AND), AND)
        self.other(((("heard", A), ("doubt", "left")), (("heard", AND), ("doubt", "right"))), told, ("doubt", "right"))
        self.other(((("asked", "left", AND), ("move", 0)), (("answered", "begin", AND), ("move", 1))), told, ("doubt", "right"))
        self.other(((ANY, ("answer", A)), (("said", AND), ("doubt", "left"))), told, ("doubt", "left"))

    def test_it_gives_up(self):
        self.first((), None)
        self.other((), ("answer", ("begin", AND), AND), None)
        self.first(((NEVER, MOVE),), None)
        self.other(((NEVER, MOVE),), ("answer", ("begin", AND), AND), None)

    def test_against_a_plain_choice(self):
        dice = random.Random(12)
        for text in ("a and b then b and a", "not not (a or not a)", "a or b then b or a"):
            saying = read_saying(text)
            sayings = small_sayings(2) + [saying, saying[1], AND, OR]
            for book in books_let_by():
                graph = plain_graph(book, saying)
                for _ in range(3):
                    program = tuple(
                        (some_condition(dice, sayings, 2), dice.choice(every_deed(dice.choice(sayings)))) for _ in range(8)
                    )
                    self.assertTrue(is_program(program))
                    ahead = fields(book)
                    for standing in graph:
                        self.plain(program, book, standing, None, slow_moves(book, standing))
                        for move in graph[standing]:
                            self.plain(program, book, standing, move, slow_replies(move))
                    self.assertEqual(fields(book), ahead)

    def plain(self, program, book, standing, move, can):
        expected = None
        for condition, deed in program[::-1]:
            if slow_holds(condition, standing, move):
                if deed[0] == "move":
                    fitting = [can[deed[1] % len(can)]] if can else []
                elif deed[0] == "answer":
                    fitting = [step for step in can if (step[0], step[-1]) == deed]
                else:
                    fitting = [step for step in can if step == deed]
                expected = fitting[0] if fitting else expected
        self.assertEqual(choice(program, book, standing, move), expected)

    def test_deeds_of_one_side_for_the_other(self):
        self.assertIsNone(choice(((ANY, ("doubt", "if")),), strict(), start(IF)))
        self.assertEqual(choice(((ANY, ("answer", IF)),), strict(), start(IF)), ("answer", ("begin", IF), IF))
        self.assertIsNone(choice(((ANY, ("answer", IF)),), strict(), start(IF), ("answer", ("begin", IF), IF)))


if __name__ == "__main__":
    unittest.main()
