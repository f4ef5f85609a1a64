"""Talkers: what they meet, whether they win always, how two of them play, programs made of plans."""

import random
import unittest

from helper import (
    A, ANY, B, books_let_by, drawn_plan_of_other, fields, plain_graph, plain_wins, plan_with_detours, sayings_of_size,
    slow_after, slow_moves, slow_replies, small_sayings, some_program, some_saying,
)
from talkcourt.books import Book, free, strict
from talkcourt.doubts import answers_to
from talkcourt.judge import judged
from talkcourt.plans import cut, wins
from talkcourt.programs import choice, is_program
from talkcourt.programtexts import read_program, show_program
from talkcourt.sayings import parts_of
from talkcourt.sayread import read_saying
from talkcourt.standings import start
from talkcourt.tables import Table, play_all
from talkcourt.talkers import always, met, play, program_of

SIDES = ("first", "other")
TEXTS = (
    "not not (a or not a)", "a and (a then b) then b", "a or b then b or a", "not (a and not a or b)", "a or not a",
    "((a then b) then a) then a", "(a then b) or (b then a)", "a then a and a",
)
SAYINGS = small_sayings(3) + sayings_of_size(4, ("a",)) + [read_saying(text) for text in TEXTS]


def simple_programs():
    """A program without rows, and such as play always by one number."""
    return [()] + [((ANY, ("move", number)),) for number in (0, 1, 2, 999)]


def programs_for(saying, dice, many):
    """Simple programs and such by chance, of parts of the saying, every second one with a last row that never gives up."""
    parts = parts_of(saying)
    drawn = [some_program(dice, parts, dice.randint(1, 8)) for _ in range(many)]
    return simple_programs() + [program + ((ANY, ("move", 0)),) * (at % 2) for at, program in enumerate(drawn)]


def plain_met(book, saying, side, program):
    """What a program meets, by a walk over sets."""
    graph = plain_graph(book, saying)
    rows, waiting, seen = set(), [start(saying)], set()
    while waiting:
        standing = waiting.pop()
        if standing in seen:
            continue
        seen.add(standing)
        if side == "first":
            move = choice(program, book, standing)
            rows.add((standing, move))
            waiting.extend(graph[standing][move].values() if move else ())
            continue
        for move, back in graph[standing].items():
            reply = choice(program, book, standing, move)
            rows.add((standing, move, reply))
            waiting.extend([back[reply]] if reply else ())
    return tuple(sorted(rows, key=lambda row: row[:-1]))


class Met(unittest.TestCase):
    def test_against_a_plain_walk(self):
        dice = random.Random(31)
        given_up = {side: 0 for side in SIDES}
        for saying in SAYINGS:
            for book in books_let_by():
                ahead = fields(book)
                for program in programs_for(saying, dice, 2):
                    for side in SIDES:
                        rows = met(book, saying, side, program)
                        self.assertIsInstance(rows, tuple)
                        self.assertEqual(rows, plain_met(book, saying, side, program), (fields(book), saying, program))
                        given_up[side] += sum(row[-1] is None for row in rows)
                self.assertEqual(fields(book), ahead)
        self.assertGreater(min(given_up.values()), 100)

    def test_at_the_bound(self):
        dice = random.Random(32)
        for _ in range(15):
            for book, many in ((strict(), 11), (dice.choice(books_let_by()), 8)):
                saying = some_saying(dice, many, "abc")
                for program in programs_for(saying, dice, 1):
                    for side in SIDES:
                        self.assertEqual(met(book, saying, side, program), plain_met(book, saying, side, program))

    def test_by_hand(self):
        saying = ("if", A, A)
        told, behind = ("answer", ("begin", saying), saying), ((A,), (("if", saying),), (), ())
        last = ("answer", ("if", saying), A)
        move = ((ANY, ("move", 0)),)
        self.assertEqual(met(strict(), saying, "first", move), ((start(saying), told), (behind, last)))
        self.assertEqual(met(strict(), saying, "first", ((ANY, ("answer", saying)),)), ((start(saying), told), (behind, None)))
        self.assertEqual(met(strict(), saying, "first", ()), ((start(saying), None),))
        # To the last move nothing may be replied, so that the other gives up there whatever its program is.
        rows = ((start(saying), told, ("doubt", "if")), (behind, last, None))
        self.assertEqual(met(strict(), saying, "other", move), rows)
        self.assertEqual(met(strict(), saying, "other", ()), ((start(saying), told, None),))

    def test_nothing_may_be_said(self):
        for book in books_let_by():
            for program in simple_programs():
                self.assertEqual(met(book, A, "first", program), ((start(A), None),))
                self.assertEqual(met(book, A, "other", program), ())


class Always(unittest.TestCase):
    def loses(self, book, saying, side, program, talk):
        """A talk that may be, goes by the program, and is lost by it, no step too long."""
        where = (fields(book), saying, side, program, talk)
        self.assertIsInstance(talk, tuple)
        stood, steps = [start(saying)], list(talk)
        while len(steps) >= 2:
            move, reply = steps.pop(0), steps.pop(0)
            self.assertEqual(stood.count(stood[-1]), 1, where)
            self.assertIn(move, slow_moves(book, stood[-1]), where)
            self.assertIn(reply, slow_replies(move), where)
            if side == "first":
                self.assertEqual(move, choice(program, book, stood[-1]), where)
            else:
                self.assertEqual(reply, choice(program, book, stood[-1], move), where)
            stood.append(slow_after(book, stood[-1], move, reply))
        if side == "first":
            self.assertEqual(steps, [], where)
            if stood.count(stood[-1]) == 1:
                self.assertIsNone(choice(program, book, stood[-1]), where)
                return "gives up"
            return "comes again"
        self.assertEqual(len(steps), 1, where)
        self.assertEqual(stood.count(stood[-1]), 1, where)
        self.assertIn(steps[0], slow_moves(book, stood[-1]), where)
        self.assertIsNone(choice(program, book, stood[-1], steps[0]), where)
        return "has no reply" if not slow_replies(steps[0]) else "gives up"

    def check(self, book, saying, side, program):
        told = always(book, saying, side, program)
        self.assertIsInstance(told, tuple)
        rows = met(book, saying, side, program)
        self.assertEqual(told[0], "wins" if plain_wins(book, saying, side, rows) else "loses")
        self.assertEqual(told, always(book, saying, side, program))
        if told[0] == "wins":
            self.assertEqual(told, ("wins", rows))
            self.assertTrue(wins(book, saying, side, rows))
            self.assertEqual(judged(book, saying)[0], side)
            return "wins"
        self.assertEqual(len(told), 2)
        return self.loses(book, saying, side, program, told[1])

    def test_by_every_book(self):
        dice, ends = random.Random(33), {}
        for saying in SAYINGS:
            for book in books_let_by():
                for program in programs_for(saying, dice, 2):
                    for side in SIDES:
                        end = side, self.check(book, saying, side, program)
                        ends[end] = ends.get(end, 0) + 1
        for side, others in (("first", ("comes again",)), ("other", ("has no reply",))):
            for end in ("wins", "gives up") + others:
                self.assertGreater(ends[side, end], 50, ends)

    def test_at_the_bound(self):
        dice = random.Random(34)
        for _ in range(12):
            for book, many in ((strict(), 11), (dice.choice(books_let_by()), 8)):
                saying = some_saying(dice, many, "ab")
                for program in programs_for(saying, dice, 1):
                    for side in SIDES:
                        self.check(book, saying, side, program)

    def test_by_hand(self):
        saying = ("if", A, A)
        told = ("answer", ("begin", saying), saying)
        last = ("answer", ("if", saying), A)
        move = ((ANY, ("move", 0)),)
        self.assertEqual(always(strict(), saying, "first", move), ("wins", met(strict(), saying, "first", move)))
        self.assertEqual(always(strict(), saying, "first", ()), ("loses", ()))
        self.assertEqual(always(strict(), saying, "first", ((ANY, ("answer", saying)),)), ("loses", (told, ("doubt", "if"))))
        self.assertEqual(always(strict(), saying, "other", ()), ("loses", (told,)))
        self.assertEqual(always(strict(), saying, "other", move), ("loses", (told, ("doubt", "if"), last)))
        self.assertEqual(always(strict(), A, "first", move), ("loses", ()))
        self.assertEqual(always(strict(), A, "other", ()), ("wins", ()))

    def test_a_standing_comes_the_second_time(self):
        saying = read_saying("a or not a")
        told = ("answer", ("begin", saying), saying)
        talk = (told, ("doubt", "which"), told, ("doubt", "which"))
        self.assertEqual(always(free(), saying, "first", ((ANY, ("answer", saying)),)), ("loses", talk))


class Play(unittest.TestCase):
    def check(self, book, saying, one, other):
        told = play(book, saying, one, other)
        self.assertIsInstance(told, tuple)
        winner, talk = told
        self.assertIsInstance(talk, tuple)
        table = Table(book, saying)
        while table.winner() is None:
            if table.turn() == "first":
                step = choice(one, book, table.standing())
            else:
                step = choice(other, book, table.standing(), table.steps()[-1])
            if step is None:
                break
            table.do(step)
        where = (fields(book), saying, one, other)
        self.assertEqual(talk, tuple(table.steps()), where)
        loser = table.turn()
        self.assertEqual(winner, "other" if loser == "first" else "first", where)
        self.assertIn(table.winner(), (None, winner), where)
        self.assertEqual(play_all(book, saying, talk).steps(), list(talk))
        return winner, table.winner() is None, table.came_again()

    def test_by_every_book(self):
        dice, ends = random.Random(35), {}
        for saying in SAYINGS:
            for book in books_let_by():
                programs = programs_for(saying, dice, 2)
                sure = [
                    [always(book, saying, side, program)[0] == "wins" for program in programs] for side in SIDES
                ]
                for at, one in enumerate(programs):
                    for place, other in enumerate(programs):
                        end = self.check(book, saying, one, other)
                        ends[end] = ends.get(end, 0) + 1
                        if sure[0][at]:
                            self.assertEqual(end[0], "first")
                        if sure[1][place]:
                            self.assertEqual(end[0], "other")
        for end in (
            ("first", False, False), ("first", True, False), ("other", False, False), ("other", True, False), ("other", False, True),
        ):
            self.assertGreater(ends[end], 20, ends)
        self.assertEqual(len(ends), 5)

    def test_by_hand(self):
        saying = ("if", A, A)
        told = ("answer", ("begin", saying), saying)
        last = ("answer", ("if", saying), A)
        move = ((ANY, ("move", 0)),)
        self.assertEqual(play(strict(), saying, move, move), ("first", (told, ("doubt", "if"), last)))
        self.assertEqual(play(strict(), saying, move, ()), ("first", (told,)))
        self.assertEqual(play(strict(), saying, (), move), ("other", ()))
        self.assertEqual(play(strict(), saying, (), ()), ("other", ()))
        self.assertEqual(play(strict(), A, move, move), ("other", ()))
        stuck = ((ANY, ("answer", saying)),)
        self.assertEqual(play(strict(), saying, stuck, move), ("other", (told, ("doubt", "if"))))
        again = ((ANY, ("doubt", "left", ("and", A, B))), (ANY, ("move", 0)))
        saying = ("if", ("and", A, B), B)
        ahead = (("answer", ("begin", saying), saying), ("doubt", "if"))
        left = (("doubt", "left", ("and", A, B)), ("answer", A))
        self.assertEqual(play(strict(), saying, again, move), ("other", ahead + left + left))

    def test_what_a_losing_talk_tells_is_played(self):
        dice = random.Random(36)
        played = 0
        for saying in SAYINGS:
            for book in books_let_by():
                for program in programs_for(saying, dice, 1):
                    end, talk = always(book, saying, "first", program)
                    if end == "wins" or len(set(talk[::2])) < len(talk[::2]):
                        continue
                    # An other side that plays just the replies of the talk, each to the move that stands ahead of it.
                    against = tuple((move_is(move), reply) for move, reply in zip(talk[::2], talk[1::2]))
                    played += 1
                    self.assertEqual(play(book, saying, program, against), ("other", talk))
        self.assertGreater(played, 100)


def move_is(move):
    """A condition that holds of this move alone."""
    if move[0] == "doubt":
        return ("asked", move[1], move[2])
    return ("and", ("answered",) + move[1], ("heard", move[2]))


class ProgramOf(unittest.TestCase):
    def check(self, book, saying, side, plan):
        program = program_of(side, plan)
        where = (fields(book), saying, side)
        self.assertTrue(is_program(program), where)
        self.assertEqual(read_program(show_program(program)), program, where)
        self.assertEqual(repr(read_program(show_program(program))), repr(program))
        self.assertEqual(met(book, saying, side, program), plan, where)
        self.assertEqual(always(book, saying, side, program), ("wins", plan), where)
        self.assertEqual(program_of(side, plan), program)
        return program

    def play_all(self, book, saying, side, program, against):
        for other in against:
            if side == "first":
                self.assertEqual(play(book, saying, program, other)[0], side)
            else:
                self.assertEqual(play(book, saying, other, program)[0], side)

    def test_plans_that_are_judged(self):
        dice = random.Random(37)
        for saying in SAYINGS + small_sayings(4):
            for book in books_let_by():
                side, plan = judged(book, saying)[:2]
                program = self.check(book, saying, side, plan)
                self.play_all(book, saying, side, program, programs_for(saying, dice, 2))

    def test_drawn_plans(self):
        dice = random.Random(38)
        two_doubts = 0
        for saying in [read_saying(text) for text in TEXTS] + sayings_of_size(5, ("a",)):
            for book in books_let_by():
                side = judged(book, saying)[0]
                for _ in range(2):
                    if side == "first":
                        plan = cut(book, saying, side, plan_with_detours(book, saying, dice))
                        for (_, unanswered, _, _), move in plan:
                            if move[0] == "answer":
                                two_doubts += move[1] != [doubt for doubt in unanswered if move[2] in answers_to(doubt)][0]
                    else:
                        plan = cut(book, saying, side, drawn_plan_of_other(book, saying, dice))
                    self.check(book, saying, side, plan)
        self.assertGreater(two_doubts, 0)

    def test_one_answer_to_two_doubts(self):
        # Both doubts of the and are open; the plan answers the second one in order.
        book, both = Book("any", "often", "often", "any"), ("and", A, A)
        saying = ("if", A, both)
        begin, said = ("begin", saying), ("if", saying)
        left, right = ("left", both), ("right", both)
        plan = tuple(sorted((
            (start(saying), ("answer", begin, saying)),
            (((A,), (begin, said), (), ()), ("answer", said, both)),
            (((A,), (begin, said, left), (), ()), ("answer", said, both)),
            (((A,), (begin, said, right), (), ()), ("answer", right, A)),
            (((A,), (begin, said, left, right), (), ()), ("answer", right, A)),
        )))
        # Where the other doubts left again the same standing would come, so the plan doesn't win; the rows are met still.
        self.assertFalse(wins(book, saying, "first", plan))
        program = program_of("first", plan)
        self.assertEqual(met(book, saying, "first", program), plan)
        self.assertEqual(always(book, saying, "first", program)[0], "loses")

    def test_at_the_bound(self):
        dice = random.Random(39)
        texts = ("not (a and b and (c and d) and e)", "(a then b) then (b then c) then a then c", "not not (not (f and d) and not (b or e))")
        for text in texts:
            saying = read_saying(text)
            side, plan = judged(strict(), saying)[:2]
            program = self.check(strict(), saying, side, plan)
            self.play_all(strict(), saying, side, program, simple_programs())
        for _ in range(10):
            saying = some_saying(dice, 8, "abcd")
            for book in books_let_by():
                self.check(book, saying, *judged(book, saying)[:2])

    def test_without_rows(self):
        self.assertEqual(program_of("other", ()), ())
        self.assertEqual(met(strict(), A, "other", ()), ())

    def test_a_move_that_may_not_be(self):
        self.assertTrue(is_program(program_of("first", ((start(A), ("answer", ("begin", A), A)),))))


class SameAnswers(unittest.TestCase):
    def test_asked_by_turns(self):
        dice = random.Random(40)
        questions = []
        for saying in SAYINGS[-6:]:
            for book in books_let_by()[::3]:
                programs = programs_for(saying, dice, 2)
                questions.extend((book, saying, side, program, programs[-1]) for side in SIDES for program in programs)

        def ask(book, saying, side, program, other):
            ahead = fields(book), repr((saying, program, other))
            told = (met(book, saying, side, program), always(book, saying, side, program), play(book, saying, program, other))
            self.assertEqual((fields(book), repr((saying, program, other))), ahead)
            return told

        answers = [ask(*question) for question in questions]
        order = list(range(len(questions)))
        dice.shuffle(order)
        for at in order:
            self.assertEqual(ask(*questions[at]), answers[at])


if __name__ == "__main__":
    unittest.main()
