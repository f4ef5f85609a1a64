"""Programs as texts: written row by row, read the same, refused with the number of the first wrong row."""

import random
import unittest

from helper import A, ANY, B, WORDS, edge_sayings, every_condition, every_deed, small_sayings, some_condition
from talkcourt.errors import NoTalker, TalkError
from talkcourt.programs import is_program
from talkcourt.programtexts import read_program, show_program
from talkcourt.sayread import read_saying
from talkcourt.saywrite import show_saying

AND, OR, IF, NOT = ("and", A, B), ("or", A, B), ("if", A, B), ("not", A)
SAID, HEARD = ("said", A), ("heard", B)
MOVE = ("move", 0)
SINGLES = (
    (ANY, "any"), (SAID, "said {a}"), (("said", IF), "said {a then b}"), (("fresh", OR), "fresh {a or b}"),
    (("heard", NOT), "heard {not a}"), (("open", "begin", A), "open begin {a}"), (("open", "not", NOT), "open not {not a}"),
    (("used", "left", AND), "used left {a and b}"), (("asked", "which", A), "asked which {a}"),
    (("answered", "if", ("and", A, OR)), "answered if {a and (a or b)}"), (("used", "right", B), "used right {b}"),
)
DEEDS = (
    (("answer", A), "answer {a}"), (("answer", ("not", OR)), "answer {not (a or b)}"), (MOVE, "move 0"), (("move", 7), "move 7"),
    (("doubt", "left", AND), "doubt left {a and b}"), (("doubt", "if", A), "doubt if {a}"), (("doubt", "not"), "doubt not"),
    (("doubt", "which"), "doubt which"), (("move", 10), "move 10"), (("move", 100), "move 100"), (("move", 999), "move 999"),
)
JOINED = (
    (("not", ANY), "not any"), (("not", ("not", SAID)), "not not said {a}"), (("and", ANY, SAID), "any and said {a}"),
    (("or", ANY, SAID), "any or said {a}"), (("and", ("and", ANY, SAID), HEARD), "any and said {a} and heard {b}"),
    (("and", ANY, ("and", SAID, HEARD)), "any and (said {a} and heard {b})"),
    (("or", ("or", ANY, SAID), HEARD), "any or said {a} or heard {b}"),
    (("or", ANY, ("or", SAID, HEARD)), "any or (said {a} or heard {b})"),
    (("or", ("and", ANY, SAID), HEARD), "any and said {a} or heard {b}"),
    (("or", ANY, ("and", SAID, HEARD)), "any or said {a} and heard {b}"),
    (("and", ("or", ANY, SAID), HEARD), "(any or said {a}) and heard {b}"),
    (("and", ANY, ("or", SAID, HEARD)), "any and (said {a} or heard {b})"),
    (("not", ("and", ANY, SAID)), "not (any and said {a})"), (("not", ("or", ANY, SAID)), "not (any or said {a})"),
    (("and", ("not", ANY), ("not", SAID)), "not any and not said {a}"),
    (("not", ("not", ("or", ("not", ANY), ("and", SAID, ("not", ("and", ANY, HEARD)))))),
     "not not (not any or said {a} and not (any and heard {b}))"),
    (("open", "not", A), "open not {a}"), (("not", ("open", "not", A)), "not open not {a}"),
)
NO_TEXTS = (None, 0, 1, True, b"any : move 0", ["any : move 0"], ("any : move 0",), {}, (), 1.5, object())


class Texts(unittest.TestCase):
    def same(self, program, text):
        """What is read is the program, tuple by tuple."""
        told = read_program(text)
        self.assertEqual(told, program, text)
        self.assertEqual(repr(told), repr(program))
        self.assertTrue(is_program(told))

    def both_ways(self, program, text):
        self.assertEqual(show_program(program), text)
        self.same(program, text)

    def refused(self, text, row):
        with self.assertRaises(NoTalker, msg=repr(text)) as caught:
            read_program(text)
        self.assertEqual(caught.exception.row, row, repr(text))
        self.assertIsInstance(caught.exception, TalkError)
        self.assertIsInstance(caught.exception, ValueError)

    def wrong(self, row):
        """A row is refused, whichever row it is."""
        self.refused(row, 0)
        self.refused(f"any : move 0\n{row}", 1)
        self.refused(f"{row}\nany : move 0", 0)
        self.refused(f"any : move 0\nany : move 1\n{row}\nnothing\n{row}", 2)


class Written(Texts):
    def test_singles_and_deeds(self):
        for condition, text in SINGLES:
            self.both_ways(((condition, MOVE),), f"{text} : move 0")
        for deed, text in DEEDS:
            self.both_ways(((ANY, deed),), f"any : {text}")

    def test_joined(self):
        for condition, text in JOINED:
            self.both_ways(((condition, MOVE),), f"{text} : move 0")

    def test_each_word_of_any_saying(self):
        for saying in (A, AND, OR, IF, NOT):
            for condition in every_condition(saying):
                for deed in every_deed(saying):
                    text = show_program(((condition, deed),))
                    self.assertNotIn("\n", text)
                    self.same(((condition, deed),), text)

    def test_row_by_row(self):
        program = ((("and", SAID, ("open", "if", IF)), ("answer", A)), (("not", HEARD), ("doubt", "if")), (ANY, MOVE))
        text = "said {a} and open if {a then b} : answer {a}\nnot heard {b} : doubt if\nany : move 0"
        self.both_ways(program, text)
        self.both_ways(program[:2], text[:text.rindex("\n")])

    def test_without_rows(self):
        self.both_ways((), "")

    def test_names_like_words(self):
        for name in (
            "any", "said", "fresh", "open", "used", "heard", "asked", "answer", "doubt", "move", "begin", "left", "right", "which",
            "if", "with", "so", "by", "nota", "anda", "orb", "thenx", "notnot", "an", "no", "o", "the", "talker", "first",
        ):
            saying = ("or", ("say", name), ("not", ("say", name)))
            self.both_ways(
                ((("said", ("say", name)), ("answer", ("say", name))), (("used", "not", saying), ("doubt", "which", saying))),
                f"said {{{name}}} : answer {{{name}}}\nused not {{{name} or not {name}}} : doubt which {{{name} or not {name}}}",
            )

    def test_sayings_at_the_edges(self):
        for saying in edge_sayings() + small_sayings(4):
            text = show_saying(saying)
            self.both_ways(((("heard", saying), ("doubt", "if", saying)),), f"heard {{{text}}} : doubt if {{{text}}}")

    def test_conditions_that_nest_deep(self):
        for word in ("not", "and", "or"):
            condition = leaning = ANY
            for _ in range(20):
                condition = ("not", condition) if word == "not" else (word, SAID, condition)
                leaning = ("not", leaning) if word == "not" else (word, leaning, SAID)
            for whole in (condition, leaning):
                self.same(((whole, MOVE),), show_program(((whole, MOVE),)))
            self.assertNotIn("(", show_program(((leaning, MOVE),)))
        self.same(((ANY, MOVE),), "(" * 20 + "any" + ")" * 20 + " : move 0")

    def test_no_bracket_too_many(self):
        dice = random.Random(21)
        many = 0
        for _ in range(400):
            condition = some_condition(dice, (A, B), 4)
            text = show_program(((condition, MOVE),))
            self.same(((condition, MOVE),), text)
            for at, sign in enumerate(text):
                if sign == "(":
                    many += 1
                    deep = [text[at:end].count("(") - text[at:end].count(")") for end in range(at + 1, len(text) + 1)]
                    end = at + deep.index(0)
                    less = text[:at] + text[at + 1:end] + text[end + 1:]
                    self.assertNotEqual(read_program(less), ((condition, MOVE),), text)
        self.assertGreater(many, 200)

    def test_programs_by_chance(self):
        dice = random.Random(22)
        sayings = (A, B, AND, OR, IF, NOT, ("if", ("or", A, NOT), ("and", B, IF)))
        for _ in range(200):
            program = tuple(
                (some_condition(dice, sayings, 3), dice.choice(every_deed(dice.choice(sayings)))) for _ in range(dice.randint(0, 30))
            )
            text = show_program(program)
            self.assertEqual(text.count("\n"), max(0, len(program) - 1))
            self.same(program, text)
            self.assertEqual(show_program(read_program(text)), text)


class ReadWithMore(Texts):
    def test_blanks(self):
        for condition, text in SINGLES + JOINED:
            for deed, done in DEEDS:
                row = f"{text} : {done}"
                self.same(((condition, deed),), f"  {row}   ")
                self.same(((condition, deed),), row.replace(" ", "   "))
                self.same(((condition, deed),), row.replace("(", " ( ").replace(")", " ) "))
                self.same(((condition, deed),), row.replace("{", "{  ").replace("}", " }"))
        self.same(((ANY, MOVE), (SAID, MOVE)), " any  :   move  0 \n   said   { a }  :  move 0")

    def test_no_blanks_beside_brackets(self):
        self.same(((("and", ANY, SAID), MOVE),), "(any)and(said {a}): move 0")
        self.same(((("not", ANY), MOVE),), "not(any): move 0")
        self.same(((("not", ("or", SAID, HEARD)), MOVE),), "not(said {a} or(heard {b})) : move 0")
        self.same(((("or", ("not", ANY), ("and", ANY, ANY)), MOVE),), "((not(any))or((any)and any)): move 0")

    def test_brackets(self):
        for condition, text in SINGLES + JOINED:
            for more in (f"({text})", f"(({text}))", f" ( ( {text} ) ) "):
                self.same(((condition, MOVE),), f"{more} : move 0")
                self.same(((("not", condition), MOVE),), f"not ({more}) : move 0")
                self.same(((("and", condition, ANY), MOVE),), f"({more}) and (any) : move 0")
                self.same(((("or", ANY, condition), MOVE),), f"any or {more} : move 0")

    def test_within_braces(self):
        self.same(((("said", AND), ("answer", OR)),), "said {((a)and( b ))} : answer {  a or(b)}")
        self.same(((("used", "if", IF), ("doubt", "not", NOT)),), "used if { (a) then b } : doubt not {not(a)}")
        saying = read_saying("a and b and c then a or (b or c)")
        self.same(((("open", "if", saying), MOVE),), "open if {((a and b) and c) then (a or (b or c))} : move 0")


class Refused(Texts):
    def test_words_too_many_or_too_few(self):
        for row in (
            "any", ":", " : ", "any :", ": move 0", "move 0", "any move 0", "any any : move 0", "any {a} : move 0", "said : move 0",
            "said a : move 0", "said {a} {b} : move 0", "said said {a} : move 0", "said left {a} : move 0", "{a} : move 0",
            "open {a} : move 0", "open left : move 0", "open left left {a} : move 0", "open left {a} {b} : move 0", "left {a} : move 0",
            "open left {a} b : move 0", "asked {a} : move 0", "answered {a} : move 0", "used {a} : move 0", "heard if {a} : move 0",
            "fresh if {a} : move 0", "not : move 0", "any not : move 0", "any and : move 0", "and any : move 0", "or : move 0",
            "any or or any : move 0", "any and or any : move 0", "any not any : move 0", "any said {a} : move 0", "not and any : move 0",
            "any : move", "any : move 0 0", "any : move {a}", "any : move {a and b}", "any : move {not a}", "any : move 0 {a}", "any : move a", "any : answer", "any : answer a",
            "any : answer {a} {b}", "any : answer left {a}", "any : answer {a} with {b}", "any : answer left {a and b} with {a}",
            "any : doubt", "any : doubt {a}", "any : doubt left {a} {b}", "any : doubt left right", "any : doubt left right {a}",
            "any : doubt left a", "any : {a}", "any : any", "any : said {a}", "any : not move 0", "any : move 0 and move 1",
            "any : left", "any : doubt 0", "move 0 : any", "any : move not", "any : answer 0", "any : 0",
        ):
            self.wrong(row)

    def test_words_that_are_none(self):
        for row in (
            "all : move 0", "then : move 0", "any then any : move 0", "if : move 0", "told {a} : move 0", "begin {a} : move 0",
            "open then {a} : move 0", "open and {a} : move 0", "open say {a} : move 0", "open any {a} : move 0", "closed if {a} : move 0",
            "any : doubt begin", "any : doubt begin {a}", "any : doubt then", "any : doubt say {a}", "any : say {a}", "any : reply {a}",
            "any : moves 0", "any : give up", "open lefts {a} : move 0", "any : doubt lef", "anyx : move 0", "an : move 0",
        ):
            self.wrong(row)
        for word in WORDS[1:]:
            self.wrong(f"any : doubt {word} {word}")
            self.wrong(f"{word} : move 0")

    def test_another_case(self):
        for _, text in SINGLES[1:] + JOINED[:4]:
            for deed in ("move 0", "doubt left {a}", "answer {b}"):
                row = f"{text} : {deed}"
                for at, sign in enumerate(row):
                    if sign.isalpha():
                        self.refused(row[:at] + sign.upper() + row[at + 1:], 0)

    def test_braces_and_brackets(self):
        row = "not (said {a} or open if {a then (b)}) : doubt if {a then b}"
        read_program(row)
        for at in range(len(row) + 1):
            for sign in "{}()":
                self.wrong(row[:at] + sign + row[at:])
            if row[at:at + 1] in tuple("{}()"):
                self.wrong(row[:at] + row[at + 1:])
        for wrong in (
            "() : move 0", "any () : move 0", "( : move 0", ") : move 0", "any) : move 0", "(any : move 0", "(any)) : move 0",
            ")any( : move 0", "any : (move 0)", "any : move (0)", "(any : move 0)", "said ({a}) : move 0", "said {} : move 0",
            "said { } : move 0", "said {()} : move 0", "said {{a}} : move 0", "open (if) {a} : move 0", "(said) {a} : move 0",
            "any : doubt (left)", "any : answer ({a})", "any : answer {(a}", "(any) (any) : move 0", "(any)(any) : move 0", "any : {",
            "(not) any : move 0", "any (and) any : move 0", "any (:) move 0", "{any} : move 0", "any : {move 0}", "any {:} move 0",
        ):
            self.wrong(wrong)

    def test_blanks_that_lack(self):
        for row in (
            "any: move 0", "any :move 0", "any:move 0", "any : move0", "said{a} : move 0", "said {a}: move 0", "said {a}and any : move 0",
            "open if{a} : move 0", "openif {a} : move 0", "any : answer{a}", "any : doubt if{a}", "any : doubtif", "notany : move 0",
            "not(any):move 0", "any and{a} : move 0", "said {a}{b} : move 0", "any :answer {a}", "said {a}any : move 0", "any : answer {a}x",
            "any\t: move 0", "any :\tmove 0", "any : move\t0", "said {a\t} : move 0", "\tany : move 0", "any : move 0\t", "any : move 0\r",
            "anyor any : move 0", "any orany : move 0",
        ):
            self.wrong(row)

    def test_numbers(self):
        for number in (
            "00", "01", "007", "000", "0999", "1000", "9999", "1000000", "-1", "-0", "+1", "+0", "1.0", "0x1", "1_0", "1,0", "", "a",
            "\u0661", "\u00b2", "1 0", "{0}", "(1)", "one", "1a", "a1", "True", "None",
        ):
            self.wrong(f"any : move {number}")
        for number in (0, 1, 9, 10, 99, 100, 998, 999):
            self.same(((ANY, ("move", number)),), f"any : move {number}")

    def test_colons(self):
        for row in (
            "any move 0", "any : : move 0", "any :: move 0", "any : move 0 :", ": any : move 0", "any : move : 0", "said : {a} : move 0",
            "said {a : b} : move 0", "said {:} : move 0", "any ; move 0", "any = move 0", "any : move 0 : move 0",
            "any : move 0 any : move 0", "(any :) move 0", "not : any : move 0",
        ):
            self.wrong(row)

    def test_rows_of_blanks(self):
        self.refused(" ", 0)
        self.refused("   ", 0)
        self.wrong(" ")
        self.wrong("    ")
        self.refused("\n", 0)
        self.refused("\n\n", 0)
        self.refused("any : move 0\n\nany : move 0", 1)
        self.refused("\nany : move 0", 0)
        self.refused("any : move 0\n", 1)
        self.refused("any : move 0\nany : move 1\n", 2)
        self.refused("any : move 0\n ", 1)

    def test_line_feeds_within_a_row(self):
        rows = ("not (said {a} or any) : answer {a then b}", "said {a  and b} : move 0")
        for row in rows:
            for at in range(len(row) + 1):
                self.refused(row[:at] + "\n" + row[at:], 1 if at == len(row) else 0)
                if row[at:at + 1] == " ":
                    self.refused(row[:at] + "\n" + row[at + 1:], 0)
        self.refused("any : move 0\nsaid {a\n} : move 0", 1)

    def test_the_first_of_two_wrong_rows(self):
        good, bad = "any : move 0", ("any", "said {} : move 0", "any : move 01")
        for one in bad:
            for two in bad:
                self.refused(f"{one}\n{two}", 0)
                self.refused(f"{good}\n{one}\n{two}", 1)
                self.refused(f"{good}\n{good}\n{one}\n{good}\n{two}\n", 2)

    def test_what_is_no_text(self):
        for thing in NO_TEXTS:
            self.refused(thing, 0)


if __name__ == "__main__":
    unittest.main()
