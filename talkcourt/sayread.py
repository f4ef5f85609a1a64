"""Sayings read from texts, and whatever else not, and, or join in the same way."""

from talkcourt.errors import NoText
from talkcourt.helper import words_and_brackets
from talkcourt.sayings import is_name

JOINING = ("(", ")", "not", "and", "or", "then")
BINDS = {"(": 0, "then": 1, "or": 2, "and": 3, "not": 4}
# A word takes what stands left of it and binds at least so much; "then" leaves a "then" waiting.
TAKES = {"then": 2, "or": 2, "and": 3, ")": 1}
MADE = {"then": "if", "or": "or", "and": "and"}


def read_saying(text):
    """The saying that a text writes, or NoText."""
    if not isinstance(text, str):
        raise NoText()
    return read_joined([read_word(word) for word in words_and_brackets(text.replace("\n", " "))])


def read_word(word):
    """A bare saying for its name; a word that joins, or a bracket, as it is; else NoText."""
    if word in JOINING:
        return word
    if not is_name(word):
        raise NoText()
    return ("say", word)


def read_joined(things):
    """What words that join and brackets, which are texts, make of the tuples between them, or NoText."""
    # Two lists, not a recursion: a text may open as many brackets as it has signs.
    done = []
    waiting = []
    lacking = True
    for thing in things:
        if lacking:
            lacking = begin_side(thing, done, waiting)
        else:
            lacking = go_on(thing, done, waiting)
    if lacking:
        raise NoText()
    take_left(1, done, waiting)
    if waiting:
        raise NoText()
    return done[0]


def begin_side(thing, done, waiting):
    """Take a thing where a side must begin, and tell whether one still lacks behind it."""
    if isinstance(thing, tuple):
        done.append(thing)
        return False
    if thing not in ("not", "("):
        raise NoText()
    waiting.append(thing)
    return True


def go_on(thing, done, waiting):
    """Take a thing behind a side, and tell whether another side lacks behind it."""
    if isinstance(thing, tuple) or thing not in TAKES:
        raise NoText()
    take_left(TAKES[thing], done, waiting)
    if thing != ")":
        waiting.append(thing)
        return True
    if not waiting:
        raise NoText()
    waiting.pop()
    return False


def take_left(least, done, waiting):
    """Put together what binds at least so much, from the last waiting word back."""
    while waiting and BINDS[waiting[-1]] >= least:
        put_together(waiting.pop(), done)


def put_together(word, done):
    """Make one tuple of a word and its sides, the last ones that are done."""
    last = done.pop()
    if word == "not":
        done.append(("not", last))
    else:
        done.append((MADE[word], done.pop(), last))
