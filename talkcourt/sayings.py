"""Sayings: what they are and what they are made of."""

from talkcourt.helper import all_within, sorted_once

LONGEST_NAME = 6
NO_NAMES = ("and", "or", "not", "then")
LENGTHS = {"say": 2, "not": 2, "and": 3, "or": 3, "if": 3}


def is_name(thing):
    """Whether anything at all is a name."""
    if not isinstance(thing, str) or not 1 <= len(thing) <= LONGEST_NAME:
        return False
    return thing not in NO_NAMES and all(["a" <= sign <= "z" for sign in thing])


def is_saying(thing):
    """Whether anything at all is a saying."""
    # A list of what is left to look at, not a recursion: the thing may nest as deep as it likes.
    waiting = [thing]
    while waiting:
        part = waiting.pop()
        if not has_form(part):
            return False
        waiting.extend(sides_of(part))
    return True


def has_form(thing):
    """Whether it is a tuple of a word and as many things as go with it; A and B are not looked at."""
    if not isinstance(thing, tuple) or len(thing) == 0 or not isinstance(thing[0], str):
        return False
    if LENGTHS.get(thing[0]) != len(thing):
        return False
    return thing[0] != "say" or is_name(thing[1])


def sides_of(saying):
    """Its A and B, as many as there are."""
    return () if saying[0] == "say" else saying[1:]


def all_parts(saying):
    """A list of its parts, each as often as it stands there: itself, then those of A, then those of B."""
    return all_within(saying, sides_of)


def size(saying):
    """How many parts it has, each as often as it stands there."""
    return len(all_parts(saying))


def names_in(saying):
    """A sorted list of the names in it, none twice."""
    return sorted_once([part[1] for part in all_parts(saying) if part[0] == "say"])


def parts_of(saying):
    """A sorted list of its parts, none twice."""
    return sorted_once(all_parts(saying))
