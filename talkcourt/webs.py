"""Webs of worlds: whether they are good, and what their worlds bear; rows of truth."""

from talkcourt.errors import NoWeb
from talkcourt.helper import is_rising
from talkcourt.sayings import all_parts


def checked_web(web):
    """True, or NoWeb with the number of the first world that isn't good."""
    if not web:
        raise NoWeb(0)
    for number in range(len(web)):
        if not is_good_world(web, number):
            raise NoWeb(number)
    return True


def is_good_world(web, number):
    """Whether the world of this number is good."""
    names, later = web[number]
    if not is_rising(names) or not is_rising(later):
        return False
    return all([number < other < len(web) and goes_on(web[number], web[other]) for other in later])


def goes_on(world, other):
    """Whether another world has all names of a world, and behind it none that isn't behind that world."""
    names, later = world
    return all([name in other[0] for name in names]) and all([number in later for number in other[1]])


def bears(web, world, saying):
    """Whether the world of this number bears a saying."""
    return truths_of(web, saying)[world]


def fails(web, saying):
    """A sorted list of the numbers of the worlds that don't bear a saying."""
    return [number for number, truth in enumerate(truths_of(web, saying)) if not truth]


def true_by(names, saying):
    """Whether a saying is true by a row of truth."""
    # In a world with none behind it all words mean what they mean by a row of truth.
    return bears(((names, ()),), 0, saying)


def truths_of(web, saying):
    """A list of whether each world bears a saying."""
    found = []
    # Backwards the sides come ahead of the part that has them, B first, so its A's truths lie on top.
    for part in all_parts(saying)[::-1]:
        if part[0] == "say":
            found.append([part[1] in names for names, later in web])
        elif part[0] == "not":
            found.append(truths_of_if(web, found.pop(), [False for world in web]))
        else:
            left = found.pop()
            found.append(joined_truths(part[0], web, left, found.pop()))
    return found[0]


def joined_truths(word, web, left, right):
    """A list of whether each world bears what a word joins, where these are the truths of its A and B."""
    if word == "and":
        return [one and other for one, other in zip(left, right)]
    if word == "or":
        return [one or other for one, other in zip(left, right)]
    return truths_of_if(web, left, right)


def truths_of_if(web, left, right):
    """A list of whether each world, and all behind it, bears B or doesn't bear A, where these are their truths."""
    # A not is an if whose B no world bears.
    here = [other or not one for one, other in zip(left, right)]
    return [here[number] and all([here[other] for other in later]) for number, (names, later) in enumerate(web)]
