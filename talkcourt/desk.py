"""The desk: rows told, sayings and talkers kept by names, and answers as texts."""

from talkcourt.books import free, let_by, strict
from talkcourt.booktexts import read_book
from talkcourt.errors import NoName, NoRow, NotLet
from talkcourt.judge import judged
from talkcourt.papertexts import show_paper
from talkcourt.programtexts import read_program
from talkcourt.sayings import is_name, size
from talkcourt.sayread import read_saying
from talkcourt.showing import paper_of
from talkcourt.talkers import always, play
from talkcourt.talktexts import show_talk
from talkcourt.weaving import truth_of, web_of
from talkcourt.webtexts import show_web

# What stands behind the first word of each sort of row: "new", a name under which a thing will be kept; "saying" and
# "talker", names under which such a thing is kept; a "side"; or a "text", which is all that is left of the row.
FORMS = {
    "book": ("text",),
    "saying": ("new", "text"),
    "talker": ("new", "text"),
    "judge": ("saying",),
    "plan": ("saying",),
    "paper": ("saying",),
    "web": ("saying",),
    "truth": ("saying",),
    "always": ("saying", "side", "talker"),
    "play": ("saying", "talker", "talker"),
}
SIDES = ("first", "other")
MOST_PARTS = 8


class Desk:
    """A desk with a book, and with sayings and talkers that are kept by names."""

    def __init__(self):
        self.book = strict()
        self.sayings = {}
        self.talkers = {}

    def say(self, row):
        """The answer to a row; what is refused changes nothing."""
        sort, *words = words_of_row(row)
        self.look_at_names(sort, words)
        if sort in ("book", "saying", "talker"):
            return self.keep_text(sort, words)
        if sort in ("always", "play"):
            return self.answer_of_talkers(sort, words)
        return self.answer_of_saying(sort, self.sayings[words[0]])

    def look_at_names(self, sort, words):
        """NoName of the first of these words, from the left, that should be a name and isn't, or isn't kept."""
        kept = {"saying": self.sayings, "talker": self.talkers}
        for place, word in zip(FORMS[sort], words):
            if place == "new" and not is_name(word):
                raise NoName(word)
            if place in kept and word not in kept[place]:
                raise NoName(word)

    def keep_text(self, sort, words):
        """Keep what the text of a row writes."""
        text = words[-1].replace("|", "\n")
        if sort == "book":
            self.book = read_let_by(text)
        elif sort == "saying":
            self.sayings[words[0]] = read_small(text)
        else:
            self.talkers[words[0]] = read_program(text)
        return "ok"

    def answer_of_saying(self, sort, saying):
        """The answer to a row that asks about a saying alone."""
        if sort == "paper":
            return paper_answer(saying)
        if sort == "web":
            return web_answer(saying)
        if sort == "truth":
            return truth_answer(saying)
        side, plan, *rounds = judged(self.book, saying)
        if sort == "plan":
            return str(len(plan))
        return " ".join([side] + [str(number) for number in rounds])

    def answer_of_talkers(self, sort, words):
        """The answer to a row that asks how talkers do."""
        saying = self.sayings[words[0]]
        talker = self.talkers[words[2]]
        if sort == "play":
            end, talk = play(self.book, saying, self.talkers[words[1]], talker)
        else:
            end, talk = always(self.book, saying, words[1], talker)
        return end if end == "wins" else f"{end} " + in_one_row(show_talk(talk))


def words_of_row(row):
    """A list of the first word of a row and of what stands behind it, place by place, or NoRow."""
    if not isinstance(row, str):
        raise NoRow()
    words = row.split(" ")
    if words[0] not in FORMS:
        raise NoRow()
    form = FORMS[words[0]]
    if form[-1] == "text":
        words = row.split(" ", len(form))
    if len(words) != len(form) + 1:
        raise NoRow()
    if not all([word in SIDES for place, word in zip(form, words[1:]) if place == "side"]):
        raise NoRow()
    return words


def read_let_by(text):
    """The book that a text writes; NotLet where it isn't let by."""
    book = read_book(text)
    if not let_by(book):
        raise NotLet()
    return book


def read_small(text):
    """The saying that a text writes; NoRow where it has too many parts to be judged by any book."""
    saying = read_saying(text)
    if size(saying) > MOST_PARTS:
        raise NoRow()
    return saying


def paper_answer(saying):
    """The paper that shows a saying, or none, where the first hasn't it by the strict book."""
    side, plan = judged(strict(), saying)[:2]
    return in_one_row(show_paper(paper_of(saying, plan))) if side == "first" else "none"


def web_answer(saying):
    """The web in which a saying fails, or none, where the first has it by the strict book."""
    side, plan = judged(strict(), saying)[:2]
    return in_one_row(show_web(web_of(saying, plan))) if side == "other" else "none"


def truth_answer(saying):
    """Whether a saying is true by every row of truth, or false and a row by which it isn't."""
    side, plan = judged(free(), saying)[:2]
    return "true" if side == "first" else " ".join(["false"] + list(truth_of(saying, plan)))


def in_one_row(text):
    """A text with a stroke in place of each line feed."""
    return text.replace("\n", "|")
