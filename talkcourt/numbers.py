"""Numbers of standings: within how many rounds the first can win from there."""

from talkcourt.reached import behind, reached
from talkcourt.standings import moves


def numbers(book, saying):
    """A sorted list of pairs: each reached standing, and its number or None."""
    found = reached(book, saying)
    known = least_rounds({repr(standing): ways_on(book, standing, moves(book, standing)) for standing in found})
    return [(standing, known.get(repr(standing))) for standing in found]


def numbers_by_texts(book, saying):
    """The numbers of all reached standings, or None, by the texts of the standings."""
    return {repr(standing): number for standing, number in numbers(book, saying)}


def ways_on(book, standing, some_moves):
    """A list of a way for each of these moves: the texts of the standings behind it and each reply."""
    return [[repr(other) for other in behind(book, standing, move)] for move in some_moves]


def least_rounds(ways):
    """The numbers of the standings from which the first can win, by their texts, the least ahead; ways are those on."""
    known = {}
    rounds = 0
    now = [text for text in ways if can_win(ways[text], known)]
    while now:
        rounds += 1
        for text in now:
            known[text] = rounds
        now = [text for text in ways if text not in known and can_win(ways[text], known)]
    return known


def can_win(some_ways, known):
    """Whether one of these ways comes to known standings alone, whatever the other replies."""
    return any([all([text in known for text in way]) for way in some_ways])
