"""Sayings written as texts, and whatever else not, and, or join in the same way."""

from talkcourt.helper import all_within
from talkcourt.sayings import sides_of

BINDS = {"if": 1, "or": 2, "and": 3, "not": 4}
# What joins nothing never stands in brackets.
SINGLE_BINDS = 5
# How much a side must bind, A's and B's, to stand without brackets.
LEAST = {"not": (4,), "and": (3, 4), "or": (2, 3), "if": (2, 1)}
BETWEEN = {"and": " and ", "or": " or ", "if": " then "}


def show_saying(saying):
    """The text of a saying, with brackets just where they must be."""
    return show_joined(saying, sides_of, name_of)


def name_of(saying):
    """The name of a bare saying."""
    return saying[1]


def show_joined(whole, joined_by, single_text):
    """The text of a whole; joined_by tells the sides of a part, single_text writes a part that has none."""
    texts = []
    # Backwards the sides come ahead of the part that has them, B first, so its A's text lies on top.
    for part in all_within(whole, joined_by)[::-1]:
        sides = joined_by(part)
        texts.append(joined_text(part[0], sides, texts) if sides else single_text(part))
    return texts[0]


def joined_text(word, sides, texts):
    """The text of a part that joins these sides by a word; their texts are taken off the texts."""
    written = []
    for side, least in zip(sides, LEAST[word]):
        text = texts.pop()
        written.append(f"({text})" if BINDS.get(side[0], SINGLE_BINDS) < least else text)
    if word == "not":
        return f"not {written[0]}"
    return BETWEEN[word].join(written)
