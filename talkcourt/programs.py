"""Programs of talkers: what they are, when their conditions hold, and what they play."""

from talkcourt.helper import all_within
from talkcourt.sayings import is_saying
from talkcourt.standings import moves, replies, told_by

# How many conditions these join.
JOINED = {"not": 1, "and": 2, "or": 2}
# How many things stand behind the word of a condition that joins no others: a saying at the end, a word ahead of it.
SINGLES = {"any": 0, "said": 1, "fresh": 1, "heard": 1, "open": 2, "used": 2, "asked": 2, "answered": 2}
WORDS_OF_DEEDS = ("left", "right", "which", "if", "not")
WORDS_OF_CONDITIONS = ("begin", "left", "right", "which", "if", "not")
GREATEST_NUMBER = 999


def is_program(thing):
    """Whether anything at all is a program."""
    return isinstance(thing, tuple) and all([is_row(row) for row in thing])


def is_row(thing):
    """Whether it is a pair of a condition and a deed."""
    return isinstance(thing, tuple) and len(thing) == 2 and is_condition(thing[0]) and is_deed(thing[1])


def is_condition(thing):
    """Whether it is a condition."""
    # A list of what is left to look at, not a recursion: the thing may nest as deep as it likes.
    waiting = [thing]
    while waiting:
        part = waiting.pop()
        if not begins_with_text(part):
            return False
        word, *things = part
        if JOINED.get(word) == len(things):
            waiting.extend(things)
        elif not is_single(word, things):
            return False
    return True


def begins_with_text(thing):
    """Whether it is a tuple whose first thing is a text."""
    return isinstance(thing, tuple) and len(thing) > 0 and isinstance(thing[0], str)


def is_single(word, things):
    """Whether this word and these things make a condition that joins no others."""
    if SINGLES.get(word) != len(things):
        return False
    if len(things) == 2 and not is_one_of(things[0], WORDS_OF_CONDITIONS):
        return False
    return len(things) == 0 or is_saying(things[-1])


def is_one_of(thing, words):
    """Whether anything at all is one of these words."""
    return isinstance(thing, str) and thing in words


def is_deed(thing):
    """Whether it is a deed."""
    if not begins_with_text(thing):
        return False
    word, *things = thing
    if word == "answer":
        return len(things) == 1 and is_saying(things[0])
    if word == "doubt":
        return is_doubt(things)
    return word == "move" and len(things) == 1 and is_number(things[0])


def is_doubt(things):
    """Whether these are a word by which a reply doubts, or such a word and a saying."""
    if len(things) == 0 or not is_one_of(things[0], WORDS_OF_DEEDS):
        return False
    return len(things) == 1 or len(things) == 2 and is_saying(things[1])


def is_number(thing):
    """Whether it is a whole number within the bounds of a deed."""
    return isinstance(thing, int) and not isinstance(thing, bool) and 0 <= thing <= GREATEST_NUMBER


def holds(condition, standing, move=None):
    """Whether a condition holds at a standing, where this move was made, or none."""
    truths = []
    # Backwards what is joined comes ahead of what joins it, so its truths lie on top.
    for part in all_within(condition, joined_by)[::-1]:
        if part[0] == "not":
            truths.append(not truths.pop())
        elif part[0] == "and":
            truths.append(all([truths.pop(), truths.pop()]))
        elif part[0] == "or":
            truths.append(any([truths.pop(), truths.pop()]))
        else:
            truths.append(single_holds(part, standing, move))
    return truths[0]


def joined_by(condition):
    """A tuple of the conditions that a condition joins."""
    return condition[1:] if condition[0] in JOINED else ()


def single_holds(condition, standing, move):
    """Whether a condition that joins no others holds."""
    said, unanswered, used, fresh = standing
    word, *things = condition
    if word == "any":
        return True
    if word == "said":
        return things[0] in said
    if word == "fresh":
        return things[0] in fresh
    if word == "open":
        return tuple(things) in unanswered
    if word == "used":
        return tuple(things) in used
    return move is not None and holds_of_move(word, things, move)


def holds_of_move(word, things, move):
    """Whether heard, asked or answered holds of a move."""
    if word == "heard":
        return told_by(move) == things[0]
    if word == "asked":
        return move == ("doubt", things[0], things[1])
    return move[0] == "answer" and move[1] == (things[0], things[1])


def choice(program, book, standing, move=None):
    """The move that a program plays, or, where a move is handed in, its reply; None where it gives up."""
    steps = moves(book, standing) if move is None else replies(move)
    for condition, deed in program:
        # The deed is looked at ahead of the condition, which takes longer.
        played = played_by(deed, steps)
        if played is not None and holds(condition, standing, move):
            return played
    return None


def played_by(deed, steps):
    """The one of these steps, which are sorted, that a deed plays, or None."""
    if not steps:
        return None
    if deed[0] == "move":
        return steps[deed[1] % len(steps)]
    for step in steps:
        if is_done(deed, step):
            return step
    return None


def is_done(deed, step):
    """Whether a step is what an answer or a doubt among the deeds asks for."""
    if deed[0] == "answer":
        return step[0] == "answer" and step[-1] == deed[1]
    return step == deed
