"""Sayings within braces, as they stand in the rows of talks, programs and papers."""

from talkcourt.errors import NoText
from talkcourt.sayread import read_saying
from talkcourt.saywrite import show_saying


def in_braces(saying):
    """The text of a saying within braces."""
    return "{" + show_saying(saying) + "}"


def braces_emptied(text):
    """A text with {} in place of each saying in braces, and a list of these sayings, or NoText."""
    outside, *pieces = text.split("{")
    sayings = []
    for piece in pieces:
        within, brace, behind = piece.partition("}")
        if brace == "" or "\n" in within:
            raise NoText()
        sayings.append(read_saying(within))
        outside += "{}" + behind
    return outside, sayings
