"""Reached standings: all that some talk about a saying comes to."""

from talkcourt.standings import after, moves, replies, start


def reached(book, saying):
    """A sorted list of the standings that some talk about a saying comes to."""
    return sorted(come_to(start(saying), lambda standing: next_ones(book, standing)))


def come_to(standing, next_to):
    """A list of this standing and all behind it, each once; next_to tells those straight behind one."""
    found = [standing]
    # Standings may nest too deep to be keys themselves; their texts are.
    seen = {repr(standing): True}
    at = 0
    while at < len(found):
        for other in next_to(found[at]):
            text = repr(other)
            if text not in seen:
                seen[text] = True
                found.append(other)
        at += 1
    return found


def next_ones(book, standing):
    """A list of the standings behind each move and each reply to it."""
    return [other for move in moves(book, standing) for other in behind(book, standing, move)]


def behind(book, standing, move):
    """A list of the standings behind a move and each reply to it."""
    return [after(book, standing, move, reply) for reply in replies(move)]
