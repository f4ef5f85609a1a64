"""Plans: whether they win, and what is left of them when all is cut that no talk comes to."""

from talkcourt.errors import NoPlan
from talkcourt.helper import is_rising
from talkcourt.numbers import least_rounds, ways_on
from talkcourt.reached import behind, come_to
from talkcourt.standings import after, moves, replies, start


def wins(book, saying, side, plan):
    """Whether a plan of this side wins."""
    return rows_come_to(book, saying, side, plan) is not None


def cut(book, saying, side, plan):
    """The rows of a plan that are come to, or NoPlan where it doesn't win."""
    rows = rows_come_to(book, saying, side, plan)
    if rows is None:
        raise NoPlan()
    return rows


def rows_come_to(book, saying, side, plan):
    """A tuple of the rows of a plan that are come to, in order, or None where it doesn't win."""
    if not is_in_order(plan):
        return None
    if side == "first":
        places = places_of_first(book, saying, plan)
    else:
        places = places_of_other(book, saying, plan)
    if places is None:
        return None
    return tuple([row for row in plan if repr(row[:-1]) in places])


def is_in_order(plan):
    """Whether the rows are sorted, one for a place: all of a row but its last thing."""
    return is_rising([row[:-1] for row in plan])


def by_places(plan):
    """What a plan tells, by the texts of the places: they nest too deep to be keys themselves."""
    return {repr(row[:-1]): row[-1] for row in plan}


def places_of_first(book, saying, plan):
    """A dict of the texts of the places that a plan of the first comes to, or None where it doesn't win."""
    told = by_places(plan)
    found = found_by(book, saying, told)
    # With one way on at most, a standing has a number just where no talk from there lacks a row or comes round again.
    if len(least_rounds(ways_from(book, found, told))) < len(found):
        return None
    return {repr((standing,)): True for standing in found}


def ways_by(book, saying, plan):
    """The ways on, by a plan of the first, of each standing that it comes to, by its text: one, or none."""
    told = by_places(plan)
    return ways_from(book, found_by(book, saying, told), told)


def found_by(book, saying, told):
    """A list of the standings that the first comes to by the moves that are told."""
    return come_to(start(saying), lambda standing: next_by(book, standing, told))


def ways_from(book, found, told):
    """The ways on from each of these standings, by its text, by the moves that are told."""
    return {repr(standing): ways_on(book, standing, told_moves(book, standing, told)) for standing in found}


def next_by(book, standing, told):
    """A list of the standings behind the move that is told there."""
    return [other for move in told_moves(book, standing, told) for other in behind(book, standing, move)]


def told_moves(book, standing, told):
    """A list of the move that is told there, or of nothing where none is told that may be."""
    move = told.get(repr((standing,)))
    return [move] if move in moves(book, standing) else []


def places_of_other(book, saying, plan):
    """A dict of the texts of the places that a plan of the other comes to, or None where it doesn't win."""
    told = by_places(plan)
    found = come_to(start(saying), lambda standing: answered_by(book, standing, told))
    places = {}
    for standing in found:
        for move in moves(book, standing):
            if not told_replies(standing, move, told):
                return None
            places[repr((standing, move))] = True
    return places


def answered_by(book, standing, told):
    """A list of the standings behind each move and the reply that is told to it."""
    return [
        after(book, standing, move, reply)
        for move in moves(book, standing)
        for reply in told_replies(standing, move, told)
    ]


def told_replies(standing, move, told):
    """A list of the reply that is told to a move there, or of nothing where none is told that may be."""
    reply = told.get(repr((standing, move)))
    return [reply] if reply in replies(move) else []
