"""Papers written as texts and read from them."""

from talkcourt.braces import braces_emptied, in_braces
from talkcourt.errors import NoText
from talkcourt.helper import is_rising, read_number
from talkcourt.papers import WHYS

MOST_FIGURES = 9


def show_paper(paper):
    """The text of a paper, row by row."""
    return "\n".join([show_row(number, row) for number, row in enumerate(paper)])


def show_row(number, row):
    """The text of the row of this number."""
    given, said, why, above = row
    words = [f"{number}."] + [in_braces(saying) for saying in given]
    words += ["so", "nonsense" if said is None else in_braces(said), "by", why]
    return " ".join(words + [str(other) for other in above])


def read_paper(text):
    """The paper that a text writes, or NoText."""
    if not isinstance(text, str):
        raise NoText()
    if text == "":
        return ()
    return tuple([read_row(number, row) for number, row in enumerate(text.split("\n"))])


def read_row(number, row):
    """The row of this number that a text writes, or NoText."""
    outside, sayings = braces_emptied(row)
    words = outside.split(" ")
    if "so" not in words:
        raise NoText()
    so = words.index("so")
    given = tuple(sayings[:so - 1])
    if words[:so] != [f"{number}."] + ["{}" for saying in given] or not is_rising(given):
        raise NoText()
    said = read_said(words[so + 1:so + 2], sayings[so - 1:])
    why, above = read_why(words[so + 2:])
    return (given, said, why, above)


def read_said(words, sayings):
    """What is said by these words, where these sayings stand in braces behind so, or NoText."""
    if words == ["nonsense"]:
        return None
    if words == ["{}"]:
        return sayings[0]
    raise NoText()


def read_why(words):
    """The why that these words tell, and the numbers above, or NoText."""
    if len(words) < 2 or words[0] != "by" or words[1] not in WHYS:
        raise NoText()
    return words[1], tuple([read_number(word, MOST_FIGURES) for word in words[2:]])
