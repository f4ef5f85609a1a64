"""Webs written as texts and read from them."""

from talkcourt.errors import NoText
from talkcourt.helper import read_number
from talkcourt.sayings import is_name

MOST_FIGURES = 3


def show_web(web):
    """The text of a web, world by world."""
    return "\n".join([show_world(number, world) for number, world in enumerate(web)])


def show_world(number, world):
    """The row of the world of this number."""
    names, later = world
    return " ".join([f"{number}:"] + list(names) + [">"] + [str(other) for other in later])


def read_web(text):
    """The web that a text writes, good or not, or NoText."""
    if not isinstance(text, str):
        raise NoText()
    if text == "":
        return ()
    return tuple([read_world(number, row) for number, row in enumerate(text.split("\n"))])


def read_world(number, row):
    """The world of this number that a row writes, or NoText."""
    words = row.split(" ")
    if words[0] != f"{number}:" or ">" not in words:
        raise NoText()
    sign = words.index(">")
    names = words[1:sign]
    if not all([is_name(name) for name in names]):
        raise NoText()
    return (tuple(names), tuple([read_number(word, MOST_FIGURES) for word in words[sign + 1:]]))
