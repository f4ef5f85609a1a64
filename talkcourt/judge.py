"""Judging: which side has a saying, and a plan by which it wins."""

from talkcourt.books import let_by
from talkcourt.errors import NotLet
from talkcourt.numbers import numbers_by_texts
from talkcourt.reached import behind, come_to
from talkcourt.standings import after, moves, replies, start


def judged(book, saying):
    """("first", plan, number of the begin) or ("other", plan); a book that isn't let by is refused with NotLet."""
    if not let_by(book):
        raise NotLet()
    known = numbers_by_texts(book, saying)
    number = known[repr(start(saying))]
    if number is None:
        return ("other", lasting_rows(book, saying, known))
    return ("first", quick_rows(book, saying, known), number)


def quick_rows(book, saying, known):
    """The first's plan by which he wins as soon as he can, where he can."""
    found = come_to(start(saying), lambda standing: behind(book, standing, quick_move(book, standing, known)))
    return tuple(sorted([(standing, quick_move(book, standing, known)) for standing in found]))


def quick_move(book, standing, known):
    """The first of the moves behind which the talk lasts least, whatever the other replies."""
    return min(moves(book, standing), key=lambda move: most_left(book, standing, move, known))


def most_left(book, standing, move, known):
    """How long, at the most, the talk lasts behind a move and its reply."""
    return max([how_long(known[repr(other)]) for other in behind(book, standing, move)], default=(0, 0))


def how_long(number):
    """A tuple that puts numbers in order, None, where the first can't win, behind all others."""
    return (1, 0) if number is None else (0, number)


def lasting_rows(book, saying, known):
    """The other's plan by which talks last longest; where the first can't win, they are never won by him."""
    found = come_to(start(saying), lambda standing: lasting_ones(book, standing, known))
    rows = [(standing, move, reply) for standing in found for move, reply in lasting_pairs(book, standing, known)]
    return tuple(sorted(rows))


def lasting_ones(book, standing, known):
    """A list of the standings behind each move and its lasting reply."""
    return [after(book, standing, move, reply) for move, reply in lasting_pairs(book, standing, known)]


def lasting_pairs(book, standing, known):
    """A list of each move that has a reply, and its lasting reply."""
    return [(move, lasting_reply(book, standing, move, known)) for move in moves(book, standing) if replies(move)]


def lasting_reply(book, standing, move, known):
    """The first of the replies behind which the talk lasts longest."""
    return max(replies(move), key=lambda reply: how_long(known[repr(after(book, standing, move, reply))]))
