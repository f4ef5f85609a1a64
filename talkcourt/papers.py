"""Papers: rows that say something, each by rows ahead of it, and whether they are good."""

from talkcourt.errors import NoPaper
from talkcourt.helper import is_rising

# The thirteen whys, and how many rows above each needs.
WHYS = {
    "given": 0, "both": 2, "left": 1, "right": 1, "one": 1, "two": 1, "cases": 3,
    "then": 1, "use": 2, "not": 1, "clash": 2, "all": 1, "put": 2,
}


def checked(paper):
    """True, or NoPaper with the number of the first row that isn't good."""
    if not paper:
        raise NoPaper(0)
    for number, row in enumerate(paper):
        if not is_good(row, paper[:number]):
            raise NoPaper(number)
    return True


def shown(paper):
    """The saying that a paper shows, or None."""
    if not paper or paper[-1][0]:
        return None
    return paper[-1][1]


def is_good(row, ahead):
    """Whether a row is good behind these rows."""
    given, said, why, above = row
    if not is_rising(given) or WHYS.get(why) != len(above) or not all([0 <= number < len(ahead) for number in above]):
        return False
    rows = [ahead[number] for number in above]
    told = [other[1] for other in rows]
    if why == "given":
        return said in given
    return why_lets(why, said, told) and all([
        saying in given or saying in gone
        for other, gone in zip(rows, let_go(why, said, told))
        for saying in other[0]
    ])


def why_lets(why, said, told):
    """Whether, by this why, what the rows above tell lets this be said; None is nonsense."""
    if why in ("both", "one", "two", "then", "not"):
        return made_of(why, said, told)
    if why in ("left", "right", "use", "clash"):
        return taken_from(why, said, told)
    if why == "all":
        return told[0] is None and said is not None
    if why == "put":
        return told[0] is not None and told[1] == said
    return sort_of(told[0]) == "or" and told[1] == said and told[2] == said


def made_of(why, said, told):
    """Whether, by this why, what is said is made of what the rows above tell."""
    if why == "both":
        return sort_of(said) == "and" and list(said[1:]) == told
    if why == "one":
        return sort_of(said) == "or" and said[1] == told[0]
    if why == "two":
        return sort_of(said) == "or" and said[2] == told[0]
    if why == "then":
        return sort_of(said) == "if" and said[2] == told[0]
    return sort_of(said) == "not" and told[0] is None


def taken_from(why, said, told):
    """Whether, by this why, what is said is taken from what the first row above tells."""
    whole = told[0]
    if why == "left":
        return sort_of(whole) == "and" and said == whole[1]
    if why == "right":
        return sort_of(whole) == "and" and said == whole[2]
    if why == "use":
        return sort_of(whole) == "if" and told[1] == whole[1] and said == whole[2]
    return sort_of(whole) == "not" and told[1] == whole[1] and said is None


def sort_of(said):
    """The word of a saying, or None of nonsense."""
    return None if said is None else said[0]


def let_go(why, said, told):
    """A list of tuples, what this why lets go of what is given in each row above."""
    if why == "cases":
        return [(), (told[0][1],), (told[0][2],)]
    if why in ("then", "not"):
        return [(said[1],)]
    if why == "put":
        return [(), (told[0],)]
    return [() for saying in told]
