"""Sayings read from texts."""

from talkcourt.errors import NoText
from talkcourt.helper import words_between_blanks
from talkcourt.sayings import is_name

BINDS = {"(": 0, "then": 1, "or": 2, "and": 3, "not": 4}
# A word takes what stands left of it and binds at least so much; "then" leaves a "then" waiting.
TAKES = {"then": 2, "or": 2, "and": 3, ")": 1}
MADE = {"then": "if", "or": "or", "and": "and"}


def read_saying(text):
    """The saying that a text writes, or NoText."""
    if not isinstance(text, str):
        raise NoText()
    # Two lists, not a recursion: a text may open as many brackets as it has signs.
    done = []
    waiting = []
    lacking = True
    for word in words_of(text):
        if lacking:
            lacking = begin_saying(word, done, waiting)
        else:
            lacking = go_on(word, done, waiting)
    if lacking:
        raise NoText()
    take_left(1, done, waiting)
    if waiting:
        raise NoText()
    return done[0]


def words_of(text):
    """The words and brackets of a text, in order."""
    return words_between_blanks(text.replace("\n", " ").replace("(", " ( ").replace(")", " ) "))


def begin_saying(word, done, waiting):
    """Take a word where a saying must begin, and tell whether one still lacks behind it."""
    if word in ("not", "("):
        waiting.append(word)
        return True
    if not is_name(word):
        raise NoText()
    done.append(("say", word))
    return False


def go_on(word, done, waiting):
    """Take a word behind a saying, and tell whether a saying lacks behind it."""
    if word not in TAKES:
        raise NoText()
    take_left(TAKES[word], done, waiting)
    if word != ")":
        waiting.append(word)
        return True
    if not waiting:
        raise NoText()
    waiting.pop()
    return False


def take_left(least, done, waiting):
    """Put together what binds at least so much, from the last waiting word back."""
    while waiting and BINDS[waiting[-1]] >= least:
        put_together(waiting.pop(), done)


def put_together(word, done):
    """Make one saying of a word and its sides, the last ones that are done."""
    last = done.pop()
    if word == "not":
        done.append(("not", last))
    else:
        done.append((MADE[word], done.pop(), last))
