"""Steps and talks written as texts and read from them."""

from talkcourt.braces import braces_emptied, in_braces
from talkcourt.doubts import doubts_of
from talkcourt.errors import NoText

SIDES = ("first", "other")
WORDS_OF_REPLIES = ("left", "right", "which", "if", "not")
# A move has three things, a reply two.
LENGTHS = {"first": 3, "other": 2}


def show_step(step):
    """The text of a move or a reply."""
    if step[0] == "answer":
        if len(step) == LENGTHS["other"]:
            return "answer " + in_braces(step[1])
        word, saying = step[1]
        return f"answer {word} " + in_braces(saying) + " with " + in_braces(step[2])
    if len(step) == LENGTHS["other"]:
        return f"doubt {step[1]}"
    return f"doubt {step[1]} " + in_braces(step[2])


def show_talk(steps):
    """The text of a talk, row by row."""
    return "\n".join([SIDES[number % 2] + " " + show_step(step) for number, step in enumerate(steps)])


def read_talk(text):
    """A list of the steps of the talk that a text writes, or NoText."""
    if not isinstance(text, str):
        raise NoText()
    if text == "":
        return []
    return [read_row(SIDES[number % 2], row) for number, row in enumerate(text.split("\n"))]


def read_row(side, row):
    """The step that a row of this side writes, or NoText."""
    ahead = f"{side} "
    if not row.startswith(ahead):
        raise NoText()
    step = read_step(row[len(ahead):])
    if len(step) != LENGTHS[side]:
        raise NoText()
    return step


def read_step(text):
    """The move or reply that a text writes, or NoText."""
    if not isinstance(text, str):
        raise NoText()
    outside, sayings = braces_emptied(text)
    words = outside.split(" ")
    if words[0] == "answer":
        return read_answer(words[1:], sayings)
    if words[0] == "doubt":
        return read_doubt(words[1:], sayings)
    raise NoText()


def read_answer(words, sayings):
    """The answer whose first word these words stand behind, a move or a reply."""
    if words == ["{}"]:
        return ("answer", sayings[0])
    if words[1:] != ["{}", "with", "{}"]:
        raise NoText()
    word = words[0]
    if word != "begin" and word not in doubts_of(sayings[0]):
        raise NoText()
    return ("answer", (word, sayings[0]), sayings[1])


def read_doubt(words, sayings):
    """The doubt whose first word these words stand behind, a move or a reply."""
    if len(words) == 1 and words[0] in WORDS_OF_REPLIES:
        return ("doubt", words[0])
    if words[1:] != ["{}"] or words[0] not in doubts_of(sayings[0]):
        raise NoText()
    return ("doubt", words[0], sayings[0])
