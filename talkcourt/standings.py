"""Standings: where the first must speak, what may be said there, and what stands behind it."""

from talkcourt.doubts import answers_to, doubts_of, said_by
from talkcourt.helper import sorted_once


def start(saying):
    """The standing at which a talk about a saying begins."""
    return ((), (("begin", saying),), (), ())


def moves(book, standing):
    """A sorted list of the first's moves."""
    said, unanswered, used, fresh = standing
    sayings = fresh if book.speaks == "last" else said
    gone = used if book.doubts == "once" else ()
    return sorted(answering_moves(unanswered, said) + doubting_moves(sayings, gone, said))


def answering_moves(unanswered, said):
    """The moves that answer one of these doubts, where the other said all this."""
    found = []
    for doubt in unanswered:
        for saying in answers_to(doubt):
            if may_say(saying, said):
                found.append(("answer", doubt, saying))
    return found


def doubting_moves(sayings, gone, said):
    """The moves that doubt one of these sayings by a doubt that isn't gone, where the other said all this."""
    found = []
    for saying in sayings:
        for word in doubts_of(saying):
            doubt = (word, saying)
            if doubt not in gone and may_say(said_by(doubt), said):
                found.append(("doubt", word, saying))
    return found


def may_say(saying, said):
    """Whether the first may say it, where the other said all this; None says nothing."""
    return saying is None or saying[0] != "say" or saying in said


def told_by(move):
    """The saying that the first says by a move, or None."""
    return move[2] if move[0] == "answer" else said_by(move[1:])


def replies(move):
    """A sorted list of the other's replies to a move."""
    told = told_by(move)
    found = []
    if told is not None:
        found.extend([("doubt", word) for word in doubts_of(told)])
    if move[0] == "doubt":
        found.extend([("answer", saying) for saying in answers_to(move[1:])])
    return sorted(found)


def after(book, standing, move, reply):
    """The standing behind a move and a reply to it."""
    said, unanswered, used = standing[:3]
    made = made_by(move, reply)
    heard = heard_by(move, reply)
    return (
        joined(said, heard),
        open_after(book, unanswered, move, made),
        used_after(book, used, move),
        heard if book.speaks == "last" else (),
    )


def made_by(move, reply):
    """A tuple of the doubt that the other makes by a reply, or of nothing."""
    return ((reply[1], told_by(move)),) if reply[0] == "doubt" else ()


def heard_by(move, reply):
    """A tuple of the saying that the other says by a reply, or of nothing."""
    if reply[0] == "answer":
        return (reply[1],)
    saying = said_by((reply[1], told_by(move)))
    return () if saying is None else (saying,)


def open_after(book, unanswered, move, made):
    """The doubts that the first may answer behind a move, and a reply that made these doubts."""
    if book.speaks == "last":
        return made
    if book.answers == "last":
        return made if made else unanswered
    if move[0] == "answer" and book.again == "once":
        unanswered = tuple([doubt for doubt in unanswered if doubt != move[1]])
    return joined(unanswered, made)


def used_after(book, used, move):
    """The doubts that the first made, with that of a move."""
    # Where doubts is "often" no standing keeps them, whatever was handed in.
    if book.doubts != "once":
        return ()
    return joined(used, (move[1:],)) if move[0] == "doubt" else used


def joined(things, more):
    """A sorted tuple of the things in both, none twice."""
    return tuple(sorted_once(things + more))
