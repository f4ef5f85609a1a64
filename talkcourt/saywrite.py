"""Sayings written as texts."""

from talkcourt.sayings import all_parts, sides_of

BINDS = {"if": 1, "or": 2, "and": 3, "not": 4, "say": 5}
# How much a side must bind, A's and B's, to stand without brackets.
LEAST = {"not": (4,), "and": (3, 4), "or": (2, 3), "if": (2, 1)}
BETWEEN = {"and": " and ", "or": " or ", "if": " then "}


def show_saying(saying):
    """The text of a saying, with brackets just where they must be."""
    texts = []
    # Backwards the sides come ahead of the part that has them, B first, so its A's text lies on top.
    for part in all_parts(saying)[::-1]:
        texts.append(part_text(part, texts))
    return texts[0]


def part_text(part, texts):
    """The text of one part; those of its sides are taken off the texts."""
    word = part[0]
    if word == "say":
        return part[1]
    written = []
    for side, least in zip(sides_of(part), LEAST[word]):
        text = texts.pop()
        written.append(f"({text})" if BINDS[side[0]] < least else text)
    if word == "not":
        return f"not {written[0]}"
    return BETWEEN[word].join(written)
