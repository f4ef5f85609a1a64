"""Plans of the other turned into webs and rows of truth, and webs into plans."""

from talkcourt.books import free, strict
from talkcourt.errors import NoPlan
from talkcourt.helper import sorted_once
from talkcourt.judge import judged
from talkcourt.plans import answered_by, by_places, wins
from talkcourt.reached import come_to
from talkcourt.standings import start
from talkcourt.webs import checked_web, fails


def plan_by(web, saying):
    """A strict plan of the other that wins, where a saying fails in a web, else NoPlan; NoWeb ahead of it."""
    checked_web(web)
    if not fails(web, saying):
        raise NoPlan()
    # What fails in a good web the first hasn't, so that judging finds the other a plan.
    return judged(strict(), saying)[1]


def web_of(saying, plan):
    """A good web whose world 0 doesn't bear a saying, of a strict plan of the other that wins for it, or NoPlan."""
    told = told_by_winner(strict(), saying, plan)
    # Each settled standing is a world that bears all that the other said, and not what the open doubt asks for.
    found = come_to(settled(strict(), start(saying), told), lambda standing: settled_behind(strict(), standing, told))
    # The fewest sayings come ahead: the begin, where nothing was said, is world 0, and no world is behind a later one.
    worlds = [said for many, said in sorted_once([(len(standing[0]), standing[0]) for standing in found])]
    return tuple([(bare_names(said), later_ones(said, worlds)) for said in worlds])


def truth_of(saying, plan):
    """A row of truth by which a saying is false, of a free plan of the other that wins for it, or NoPlan."""
    told = told_by_winner(free(), saying, plan)
    return bare_names(settled(free(), start(saying), told)[0])


def told_by_winner(book, saying, plan):
    """What a plan of the other tells, by the texts of the places, or NoPlan where it doesn't win."""
    if not wins(book, saying, "other", plan):
        raise NoPlan()
    return by_places(plan)


def settled_behind(book, standing, told):
    """A list of the settled standings behind each move at a standing and the reply that is told to it."""
    return [settled(book, other, told) for other in answered_by(book, standing, told)]


def settled(book, standing, told):
    """The standing to which the first comes as long as some move brings out more by the replies that are told."""
    more = richer_ones(book, standing, told)
    while more:
        standing = more[0]
        more = richer_ones(book, standing, told)
    return standing


def richer_ones(book, standing, told):
    """A list of the other standings behind a move and its reply at which all that was open is open still."""
    return [
        other
        for other in answered_by(book, standing, told)
        if other != standing and has_all(other[1], standing[1])
    ]


def later_ones(said, worlds):
    """A tuple of the numbers of the worlds in which more is said than this."""
    return tuple([number for number, other in enumerate(worlds) if other != said and has_all(other, said)])


def has_all(things, some):
    """Whether some things are all among these."""
    return all([thing in things for thing in some])


def bare_names(said):
    """A sorted tuple of the names of the bare ones among these sayings."""
    return tuple(sorted([saying[1] for saying in said if saying[0] == "say"]))
