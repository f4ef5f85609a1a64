"""Plans further: rows by which the other lasts, how many talks go by a plan, and plans put into one another."""

from talkcourt.errors import NoPlan
from talkcourt.judge import judged, lasting_rows
from talkcourt.numbers import least_rounds, numbers_by_texts
from talkcourt.plans import ways_by, wins
from talkcourt.standings import start


def lasting(book, saying):
    """The other's rows by which the first doesn't win sooner than he must, or NoPlan where he hasn't the saying."""
    known = numbers_by_texts(book, saying)
    if known[repr(start(saying))] is None:
        raise NoPlan()
    return lasting_rows(book, saying, known)


def many_talks(book, saying, plan):
    """How many talks go by a plan of the first that wins, or NoPlan."""
    if not wins(book, saying, "first", plan):
        raise NoPlan()
    ways = ways_by(book, saying, plan)
    counts = {}
    # The least rounds come ahead, so what lies behind a standing is counted when its turn comes.
    for text in least_rounds(ways):
        way = ways[text][0]
        counts[text] = sum([counts[other] for other in way]) if way else 1
    return counts[repr(start(saying))]


def put(book, one, one_plan, other, other_plan):
    """Of plans of the first for A and for A then B one for B, by the strict or the free book, or NoPlan."""
    if other[:2] != ("if", one):
        raise NoPlan()
    if not wins(book, one, "first", one_plan) or not wins(book, other, "first", other_plan):
        raise NoPlan()
    # By these two books who has A and A then B has B, so that judging B finds him a plan.
    return judged(book, other[2])[1]
