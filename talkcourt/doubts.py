"""Doubts: by which words a saying is doubted, and what may be said to it."""

from talkcourt.helper import sorted_once

# The words by which each sort of saying may be doubted, sorted.
WORDS = {"say": (), "not": ("not",), "and": ("left", "right"), "or": ("which",), "if": ("if",)}


def doubts_of(saying):
    """A sorted list of the words by which a saying may be doubted."""
    return list(WORDS[saying[0]])


def answers_to(doubt):
    """A sorted list of the sayings with which a doubt may be answered, none twice."""
    word, saying = doubt
    if word == "begin":
        return [saying]
    if word == "left":
        return [saying[1]]
    if word in ("right", "if"):
        return [saying[2]]
    if word == "which":
        return sorted_once(saying[1:])
    return []


def said_by(doubt):
    """The saying that one says by a doubt, or None."""
    word, saying = doubt
    return saying[1] if word in ("if", "not") else None
