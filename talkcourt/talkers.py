"""Talkers: what a program meets, whether it wins always, how two of them play, and programs made of plans."""

from talkcourt.numbers import least_rounds
from talkcourt.plans import by_places, told_replies, ways_by, wins
from talkcourt.programs import choice
from talkcourt.reached import behind, come_to
from talkcourt.standings import after, answering_moves, moves, replies, start
from talkcourt.tables import Table

AGAINST = {"first": "other", "other": "first"}


def met(book, saying, side, program):
    """A sorted tuple of all that a program of this side meets, and what it plays there, or None where it gives up."""
    found = come_to(start(saying), lambda standing: next_by_rows(book, rows_at(book, side, standing, program)))
    return tuple(sorted([row for standing in found for row in rows_at(book, side, standing, program)]))


def rows_at(book, side, standing, program):
    """A list of a program's rows at a standing: one, of the first, and one for each move there, of the other."""
    if side == "first":
        return [(standing, choice(program, book, standing))]
    return [(standing, move, choice(program, book, standing, move)) for move in moves(book, standing)]


def next_by_rows(book, rows):
    """A list of the standings behind these rows, whatever is replied where the first plays."""
    found = []
    for row in rows:
        if row[-1] is not None and len(row) == 2:
            found.extend(behind(book, row[0], row[1]))
        elif row[-1] is not None:
            found.append(after(book, row[0], row[1], row[2]))
    return found


def always(book, saying, side, program):
    """("wins", what it meets) where a program of this side wins always, else ("loses", a talk that it loses)."""
    rows = met(book, saying, side, program)
    if wins(book, saying, side, rows):
        return ("wins", rows)
    if side == "first":
        return ("loses", lost_by_first(book, saying, rows))
    return ("loses", lost_by_other(book, saying, rows))


def lost_by_first(book, saying, rows):
    """A talk that the first loses by these rows, which don't win."""
    told = by_places(rows)
    won = least_rounds(ways_by(book, saying, rows))
    talk = []
    stood = []
    standing = start(saying)
    while standing not in stood:
        move = told[repr((standing,))]
        if move is None:
            return tuple(talk)
        # Where a standing isn't won, some reply leads to another one that isn't.
        lasting = [reply for reply in replies(move) if repr(after(book, standing, move, reply)) not in won]
        talk.extend([move, lasting[0]])
        stood.append(standing)
        standing = after(book, standing, move, lasting[0])
    return tuple(talk)


def lost_by_other(book, saying, rows):
    """A shortest talk that the other loses by these rows, which don't win."""
    told = by_places(rows)
    lost = [
        talk + (move,)
        for standing, talk in talks_by_other(book, saying, told)
        for move in moves(book, standing)
        if told[repr((standing, move))] is None
    ]
    return lost[0]


def talks_by_other(book, saying, told):
    """A list of pairs: each standing come to where the other plays what is told, and a shortest talk to it."""
    found = [(start(saying), ())]
    seen = {repr(start(saying)): True}
    at = 0
    while at < len(found):
        standing, talk = found[at]
        for move in moves(book, standing):
            for reply in told_replies(standing, move, told):
                later = after(book, standing, move, reply)
                if repr(later) not in seen:
                    seen[repr(later)] = True
                    found.append((later, talk + (move, reply)))
        at += 1
    return found


def play(book, saying, one, other):
    """The winner, where one program plays the first and the other one the other, and their talk."""
    table = Table(book, saying)
    step = next_step(book, table, one, other)
    while step is not None:
        table.do(step)
        step = next_step(book, table, one, other)
    # Whoever should speak and doesn't has lost, also at a standing that came again.
    return (AGAINST[table.turn()], tuple(table.steps()))


def next_step(book, table, one, other):
    """What is played at a table, or None where the talk is at its end or given up."""
    if table.winner() is not None:
        return None
    if table.turn() == "first":
        return choice(one, book, table.standing())
    return choice(other, book, table.standing(), table.steps()[-1])


def program_of(side, plan):
    """A program that, where a plan of this side wins and is cut, meets just its rows."""
    # What makes out one standing may hold at another that has more, so those that have more come ahead.
    rows = sorted(plan, key=lambda row: -sum([len(things) for things in row[0]]))
    if side == "first":
        return tuple([(all_of(marks_of(standing)), deed_of(standing, move)) for standing, move in rows])
    return tuple([(all_of(marks_of_move(move) + marks_of(standing)), reply) for standing, move, reply in rows])


def all_of(conditions):
    """The condition that holds where all of these do, one at least."""
    whole = conditions[0]
    for condition in conditions[1:]:
        whole = ("and", whole, condition)
    return whole


def marks_of(standing):
    """A list of conditions that hold at this standing, and at no other one but such as have more."""
    said, unanswered, used, fresh = standing
    return (
        [("said", saying) for saying in said]
        + [("open", word, saying) for word, saying in unanswered]
        + [("used", word, saying) for word, saying in used]
        + [("fresh", saying) for saying in fresh]
    )


def marks_of_move(move):
    """A list of conditions that hold of this move alone."""
    if move[0] == "doubt":
        return [("asked", move[1], move[2])]
    word, saying = move[1]
    return [("answered", word, saying), ("heard", move[2])]


def deed_of(standing, move):
    """The deed that plays a move at a standing."""
    if move[0] == "doubt":
        return move
    # By the answer alone another doubt might be answered that has it, too. In order answers come ahead of doubts, so
    # that the number of one is the same by every book.
    said, unanswered = standing[:2]
    answers = sorted(answering_moves(unanswered, said))
    return ("move", answers.index(move)) if move in answers else ("answer", move[2])
