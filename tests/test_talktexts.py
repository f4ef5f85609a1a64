"""Steps and talks as texts."""

import random
import unittest

from helper import A, B, books_let_by, edge_sayings, small_sayings
from talkcourt.doubts import answers_to, doubts_of
from talkcourt.errors import NoText, TalkError
from talkcourt.sayread import read_saying
from talkcourt.saywrite import show_saying
from talkcourt.tables import Table
from talkcourt.talktexts import read_step, read_talk, show_step, show_talk

AND, OR, IF, NOT = ("and", A, B), ("or", A, B), ("if", A, B), ("not", A)
WRITTEN = [
    (("answer", ("begin", IF), IF), "answer begin {a then b} with {a then b}"),
    (("answer", ("begin", A), A), "answer begin {a} with {a}"),
    (("answer", ("left", AND), A), "answer left {a and b} with {a}"),
    (("answer", ("right", AND), B), "answer right {a and b} with {b}"),
    (("answer", ("which", OR), A), "answer which {a or b} with {a}"),
    (("answer", ("which", OR), B), "answer which {a or b} with {b}"),
    (("answer", ("if", IF), B), "answer if {a then b} with {b}"),
    (("answer", ("not", NOT), ("and", OR, A)), "answer not {not a} with {(a or b) and a}"),
    (("doubt", "left", AND), "doubt left {a and b}"),
    (("doubt", "right", AND), "doubt right {a and b}"),
    (("doubt", "which", OR), "doubt which {a or b}"),
    (("doubt", "if", IF), "doubt if {a then b}"),
    (("doubt", "not", NOT), "doubt not {not a}"),
    (("answer", A), "answer {a}"),
    (("answer", ("not", OR)), "answer {not (a or b)}"),
    (("doubt", "left"), "doubt left"),
    (("doubt", "right"), "doubt right"),
    (("doubt", "which"), "doubt which"),
    (("doubt", "if"), "doubt if"),
    (("doubt", "not"), "doubt not"),
]
SAME = ("if", A, A)
TALK = [("answer", ("begin", SAME), SAME), ("doubt", "if"), ("answer", ("if", SAME), A)]
TALK_TEXT = "first answer begin {a then a} with {a then a}\nother doubt if\nfirst answer if {a then a} with {a}"
NO_TEXTS = (None, 0, True, b"doubt if", b"", [], ["doubt if"], (), ("doubt", "if"), {}, 1.5, object())


class Steps(unittest.TestCase):
    def refused(self, text):
        with self.assertRaises(NoText, msg=repr(text)) as caught:
            read_step(text)
        self.assertIsInstance(caught.exception, TalkError)

    def test_each_sort_with_each_word(self):
        for step, text in WRITTEN:
            self.assertEqual(show_step(step), text)
            self.assertEqual(read_step(text), step)

    def test_steps_of_many_sayings(self):
        for saying in small_sayings(5) + edge_sayings():
            steps = [("answer", saying), ("answer", ("begin", saying), saying), ("answer", ("begin", A), saying)]
            for word in doubts_of(saying):
                steps.append(("doubt", word, saying))
                steps.extend(("answer", (word, saying), answer) for answer in answers_to((word, saying)))
            for step in steps:
                text = show_step(step)
                self.assertEqual(read_step(text), step)
                self.assertIn("{" + show_saying(saying) + "}", text)

    def test_blanks_and_brackets_more_within_braces(self):
        self.assertEqual(read_step("answer { a }"), ("answer", A))
        self.assertEqual(read_step("answer {   ((a))}"), ("answer", A))
        self.assertEqual(read_step("doubt left {( a )and(b) }"), ("doubt", "left", AND))
        self.assertEqual(read_step("answer if { a   then (b)} with {  (b) }"), ("answer", ("if", IF), B))

    def test_whether_it_may_be_said_is_not_looked_at(self):
        self.assertEqual(read_step("answer left {a and b} with {a or b}"), ("answer", ("left", AND), OR))
        self.assertEqual(read_step("answer begin {a} with {b}"), ("answer", ("begin", A), B))

    def test_refused(self):
        for text in (
            "", " ", "\n", "answer", "doubt", "answer ", "doubt ", "{a}", "with {a}", "left", "a", "say {a}", "if",
            "answer a", "answer {a", "answer a}", "answer {}", "answer { }", "answer {{a}}", "answer {a}}", "answer {{a}",
            "answer}{a}", "answer {a} {b}", "answer {a}{b}", "answer {a} with {b}", "answer left with {a}",
            "answer left {a and b}", "answer left {a and b} with", "answer left {a and b} with {}",
            "answer left {a and b} with a", "answer left {a and b}{a}", "answer left {a and b} {a}",
            "answer left {a and b} with {a} with {a}", "answer left {a and b} with {a} {a}", "answer {a and b} with {a}",
            "answer left {a and b} without {a}", "answer {left} {a and b} with {a}", "doubt {left}", "doubt {a and b}",
            "doubt left {a and b} {a}", "doubt left {a and b} with {a}", "doubt left left", "doubt left right {a and b}",
        ):
            self.refused(text)

    def test_refused_blanks(self):
        for _, text in WRITTEN:
            self.refused(" " + text)
            self.refused(text + " ")
            depth = 0
            for at, sign in enumerate(text):
                depth += (sign == "{") - (sign == "}")
                if sign == " " and depth == 0:
                    self.refused(text[:at] + " " + text[at:])
                    self.refused(text[:at] + text[at + 1:])
                    self.refused(text[:at] + "\t" + text[at + 1:])

    def test_refused_line_feeds(self):
        for _, text in WRITTEN:
            for at in range(len(text) + 1):
                self.refused(text[:at] + "\n" + text[at:])
                if text[at:at + 1] == " ":
                    self.refused(text[:at] + "\n" + text[at + 1:])

    def test_refused_braces(self):
        for _, text in WRITTEN:
            for at in range(len(text) + 1):
                for brace in "{}":
                    self.refused(text[:at] + brace + text[at:])
                if text[at:at + 1] in ("{", "}"):
                    self.refused(text[:at] + text[at + 1:])

    def test_refused_cases(self):
        for _, text in WRITTEN:
            for at, sign in enumerate(text):
                if sign.isalpha():
                    self.refused(text[:at] + sign.upper() + text[at + 1:])

    def test_a_word_that_doubts_no_such_saying(self):
        words = ("begin", "left", "right", "which", "if", "not", "and", "or", "then", "say", "with", "")
        for saying in (A, AND, OR, IF, NOT):
            written = "{" + show_saying(saying) + "}"
            for word in words:
                if word not in doubts_of(saying):
                    self.refused(f"doubt {word} {written}")
                    if word != "begin":
                        self.refused(f"answer {word} {written} with {{a}}")
        for word in ("begin", "and", "or", "then", "say", "with", "", "LEFT", "leftt", "answer"):
            self.refused(f"doubt {word}")

    def test_what_is_no_text(self):
        for thing in NO_TEXTS:
            self.refused(thing)


class Talks(unittest.TestCase):
    def refused(self, text):
        with self.assertRaises(NoText, msg=repr(text)):
            read_talk(text)

    def test_row_by_row(self):
        self.assertEqual(show_talk(TALK), TALK_TEXT)
        self.assertEqual(read_talk(TALK_TEXT), TALK)
        self.assertIsInstance(read_talk(TALK_TEXT), list)
        self.assertEqual(show_talk(tuple(TALK)), TALK_TEXT)
        for many in range(1, 4):
            text = "\n".join(TALK_TEXT.split("\n")[:many])
            self.assertEqual(show_talk(TALK[:many]), text)
            self.assertEqual(read_talk(text), TALK[:many])

    def test_without_signs(self):
        self.assertEqual(show_talk([]), "")
        self.assertEqual(read_talk(""), [])
        told = read_talk("")
        told.append(None)
        self.assertEqual(read_talk(""), [])

    def test_talks_by_chance(self):
        dice = random.Random(4)
        for text in ("not not (a or not a)", "a and (b or c) then a and b or a and c", "((a then b) then a) then a"):
            for book in books_let_by():
                table = Table(book, read_saying(text))
                while table.can() and len(table.steps()) < 30:
                    table.do(dice.choice(table.can()))
                    steps = table.steps()
                    self.assertEqual(read_talk(show_talk(steps)), steps)
                    self.assertEqual(steps, table.steps())

    def test_whether_it_may_be_said_is_not_looked_at(self):
        text = "first doubt left {a and b}\nother doubt which\nfirst answer begin {a} with {b}\nother answer {a}"
        steps = [("doubt", "left", AND), ("doubt", "which"), ("answer", ("begin", A), B), ("answer", A)]
        self.assertEqual(read_talk(text), steps)
        self.assertEqual(show_talk(steps), text)
        self.assertEqual(read_talk("first doubt left { a  and (b)}"), [("doubt", "left", AND)])

    def test_rows_told_twice_or_left_out(self):
        rows = TALK_TEXT.split("\n")
        self.refused("\n".join(rows[1:]))
        self.refused("\n".join([rows[0], rows[2]]))
        for at in range(3):
            self.refused("\n".join(rows[:at + 1] + rows[at:]))

    def test_sides(self):
        self.refused("other doubt if")
        for at, row in enumerate(TALK_TEXT.split("\n")):
            rows = TALK_TEXT.split("\n")
            side, step = row[:5], row[6:]
            exchanged = {"first": "other", "other": "first"}[side]
            for wrong in (
                step, f"{exchanged} {step}", f" {row}", f"{side}  {step}", f"{side}{step}", f"{row} ", f"{side}: {step}",
                f"{side.upper()} {step}", f"{side.title()} {step}", side, f"{side} ", "", " ", f"{side} {side} {step}",
                row.replace(" ", "\t", 1), f"\n{row}", f"{row}\n", f"{side}\n{step}", row.replace(" ", "\n", 2),
            ):
                rows[at] = wrong
                self.refused("\n".join(rows))

    def test_a_reply_of_the_first_and_a_move_of_the_other(self):
        for step, text in WRITTEN:
            if len(step) == 2:
                self.refused(f"first {text}")
                self.assertEqual(read_talk(f"first doubt if {{a then b}}\nother {text}"), [("doubt", "if", IF), step])
            else:
                self.refused(f"first doubt if {{a then b}}\nother {text}")
                self.assertEqual(read_talk(f"first {text}"), [step])

    def test_line_feeds_and_braces(self):
        for at in range(len(TALK_TEXT) + 1):
            for sign in "\n{}":
                self.refused(TALK_TEXT[:at] + sign + TALK_TEXT[at:])
        self.refused("\n")
        self.refused(" ")
        self.refused("first answer begin {a\n} with {a}")

    def test_what_is_no_text(self):
        for thing in NO_TEXTS:
            self.refused(thing)

    def test_the_list_that_is_handed_in_stays(self):
        steps = list(TALK)
        show_talk(steps)
        self.assertEqual(steps, TALK)


if __name__ == "__main__":
    unittest.main()
