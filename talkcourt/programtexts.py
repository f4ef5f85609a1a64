"""Programs written as texts and read from them."""

from talkcourt.braces import braces_emptied, in_braces
from talkcourt.errors import NoTalker, NoText
from talkcourt.helper import read_number, words_and_brackets
from talkcourt.programs import SINGLES, is_deed, is_single, joined_by
from talkcourt.sayread import read_joined
from talkcourt.saywrite import show_joined

# Sayings are joined by then, too; conditions aren't.
JOINING = ("(", ")", "not", "and", "or")
# The greatest number of a deed has three.
MOST_FIGURES = 3


def show_program(program):
    """The text of a program, row by row."""
    return "\n".join([show_row(condition, deed) for condition, deed in program])


def show_row(condition, deed):
    """The text of one row."""
    return show_joined(condition, joined_by, show_things) + " : " + show_things(deed)


def show_things(things):
    """The text of a deed, or of a condition that joins no others: its words, its number, its saying in braces."""
    return " ".join([in_braces(thing) if isinstance(thing, tuple) else str(thing) for thing in things])


def read_program(text):
    """The program that a text writes, or NoTalker with the number of the first wrong row."""
    if not isinstance(text, str):
        raise NoTalker(0)
    if text == "":
        return ()
    program = []
    for number, row in enumerate(text.split("\n")):
        try:
            program.append(read_row(row))
        except NoText:
            raise NoTalker(number) from None
    return tuple(program)


def read_row(row):
    """The condition and the deed that a row writes, or NoText."""
    things = things_of(row)
    if ":" not in things:
        raise NoText()
    colon = things.index(":")
    return (read_condition(things[:colon]), read_deed(things[colon + 1:]))


def things_of(row):
    """The words, brackets and colons of a row, in order, and in place of each saying in braces the saying."""
    outside, sayings = braces_emptied(row)
    things = []
    for word in words_and_brackets(outside):
        if word == "{}":
            things.append(sayings.pop(0))
        else:
            things.append(word)
    return things


def read_condition(things):
    """The condition that these things write, or NoText."""
    found = []
    left = things
    while left:
        if left[0] in JOINING:
            found.append(left[0])
            left = left[1:]
        else:
            single = read_single(left)
            found.append(single)
            left = left[len(single):]
    return read_joined(found)


def read_single(things):
    """The condition that joins no others by which these things begin, or NoText."""
    word = things[0]
    if not isinstance(word, str) or word not in SINGLES:
        raise NoText()
    behind = things[1:SINGLES[word] + 1]
    if not is_single(word, behind):
        raise NoText()
    return (word,) + tuple(behind)


def read_deed(things):
    """The deed that these things write, or NoText."""
    deed = tuple(things)
    if len(deed) == 2 and deed[0] == "move" and isinstance(deed[1], str):
        deed = ("move", read_number(deed[1], MOST_FIGURES))
    if not is_deed(deed):
        raise NoText()
    return deed
