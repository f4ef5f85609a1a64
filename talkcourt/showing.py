"""Strict plans of the first turned into papers, and papers into plans."""

from talkcourt.books import strict
from talkcourt.doubts import answers_to, doubts_of
from talkcourt.errors import NoPlan
from talkcourt.judge import judged
from talkcourt.numbers import least_rounds
from talkcourt.papers import checked, shown
from talkcourt.plans import cut, ways_by
from talkcourt.standings import after, start, told_by

# The whys by which a saying is made of what its doubts ask for; what is asked of an or is the or itself.
MADE_BY = {"and": "both", "if": "then", "not": "not"}


class Sheet:
    """A paper that is written row by row, and which row shows what was to be shown at which standing."""

    def __init__(self):
        self.rows = []
        self.places = {}
        self.ends = {}

    def write(self, given, said, why, above):
        """Write a row, unless it stands there, and tell its number."""
        row = (given, said, why, above)
        text = repr(row)
        if text not in self.places:
            self.places[text] = len(self.rows)
            self.rows.append(row)
        return self.places[text]

    def end(self, standing, number):
        """Keep the number of the row that shows what was to be shown at a standing."""
        self.ends[repr(standing)] = number

    def end_of(self, standing):
        """The number of the row that shows what was to be shown at a standing."""
        return self.ends[repr(standing)]


def plan_of(paper):
    """A strict plan of the first that wins for what a paper shows; NoPaper, or NoPlan where it shows nothing."""
    checked(paper)
    saying = shown(paper)
    if saying is None:
        raise NoPlan()
    # What a good paper shows the first has, so that judging finds him a plan.
    return judged(strict(), saying)[1]


def paper_of(saying, plan):
    """A good paper that shows a saying, of a strict plan of the first that wins for it, or NoPlan."""
    rows = cut(strict(), saying, "first", plan)
    rounds = least_rounds(ways_by(strict(), saying, rows))
    sheet = Sheet()
    # The least rounds come ahead, so that what is needed stands above.
    for standing, move in sorted(rows, key=lambda row: rounds[repr(row[0])]):
        sheet.end(standing, write_end(sheet, standing, move))
    return tuple(sheet.rows[:sheet.end_of(start(saying)) + 1])


def write_end(sheet, standing, move):
    """Write what is to be shown at a standing, where this move is played, and tell the row's number."""
    # By the strict book just one doubt is open.
    doubt = standing[1][0]
    goal = goal_of(doubt)
    if move[0] == "doubt":
        return write_doubt(sheet, standing, move, goal)
    number = write_told(sheet, standing, move)
    if doubt[0] != "which":
        return number
    why = "one" if move[2] == goal[1] else "two"
    return sheet.write(standing[0], goal, why, (number,))


def goal_of(doubt):
    """What is to be shown where this doubt is open: a saying, or None, nonsense, where it has no answer."""
    word, saying = doubt
    if word == "which":
        return saying
    return None if word == "not" else answers_to(doubt)[0]


def write_told(sheet, standing, move):
    """Write what the first says by a move, made of what its doubts ask for, and tell the row's number."""
    given = standing[0]
    told = told_by(move)
    if told[0] == "say":
        return sheet.write(given, told, "given", ())
    ends = [end_behind(sheet, standing, move, ("doubt", word)) for word in doubts_of(told)]
    return ends[0] if told[0] == "or" else sheet.write(given, told, MADE_BY[told[0]], tuple(ends))


def write_doubt(sheet, standing, move, goal):
    """Write what is to be shown at a standing, where the first plays this doubt, and tell the row's number."""
    given = standing[0]
    word, whole = move[1:]
    fact = sheet.write(given, whole, "given", ())
    if word == "not":
        clash = sheet.write(given, None, "clash", (fact, write_told(sheet, standing, move)))
        return clash if goal is None else sheet.write(given, goal, "all", (clash,))
    if word == "which":
        ends = [end_behind(sheet, standing, move, ("answer", side)) for side in whole[1:]]
        return sheet.write(given, goal, "cases", (fact, ends[0], ends[1]))
    answer = answers_to((word, whole))[0]
    if word == "if":
        taken = sheet.write(given, answer, "use", (fact, write_told(sheet, standing, move)))
    else:
        taken = sheet.write(given, answer, word, (fact,))
    return sheet.write(given, goal, "put", (taken, end_behind(sheet, standing, move, ("answer", answer))))


def end_behind(sheet, standing, move, reply):
    """The number of the row that shows what was to be shown behind a move and a reply."""
    return sheet.end_of(after(strict(), standing, move, reply))
