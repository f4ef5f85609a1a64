"""What several test files need: sayings by the hundred, sayings at the edges, all books, and a slow reckoning with sets."""

import itertools

from talkcourt.books import Book
from talkcourt.sayings import names_in

A, B, C = ("say", "a"), ("say", "b"), ("say", "c")
TWO_SIDED = ("and", "if", "or")
ANY = ("any",)
WORDS = ("begin", "left", "right", "which", "if", "not")


def sayings_of_size(many, names=("a", "b")):
    """All sayings of so many parts over these names."""
    if many == 1:
        return [("say", name) for name in names]
    found = [("not", side) for side in sayings_of_size(many - 1, names)]
    for left_size in range(1, many - 1):
        for left in sayings_of_size(left_size, names):
            for right in sayings_of_size(many - 1 - left_size, names):
                found.extend((word, left, right) for word in TWO_SIDED)
    return found


def small_sayings(largest, names=("a", "b")):
    """All sayings of at most so many parts over these names."""
    return [saying for many in range(1, largest + 1) for saying in sayings_of_size(many, names)]


def chain(word, deep, leaning, bare=A, end=B):
    """A saying that nests so deep by one word, all along its left or its right side."""
    saying = end
    for _ in range(deep):
        if word == "not":
            saying = ("not", saying)
        elif leaning == "left":
            saying = (word, saying, bare)
        else:
            saying = (word, bare, saying)
    return saying


def edge_sayings():
    """Sayings that nest 20 deep, or have 40 parts, or both, of every sort, leaning either way."""
    found = [chain("not", 20, "left")]
    for word in TWO_SIDED:
        for leaning in ("left", "right"):
            nineteen = chain(word, 19, leaning)
            found.append(("not", nineteen))
            found.append(chain(word, 19, leaning, end=("not", B)))
            found.append(chain(word, 20, leaning))
    for word in TWO_SIDED:
        for other in TWO_SIDED:
            mixed = B
            for step in range(19):
                mixed = (word, mixed, A) if step % 2 else (other, C, mixed)
            found.append(("not", mixed))
    return found


def all_books():
    """All thirty-two books, by their fields."""
    wide, often = ("last", "any"), ("once", "often")
    return [Book(*fields) for fields in itertools.product(wide, often, often, wide, wide)]


def books_let_by():
    """The sixteen books whose other speaks to the last."""
    return [book for book in all_books() if book.other == "last"]


def fields(book):
    """The five fields of a book, in their order."""
    return (book.answers, book.again, book.doubts, book.speaks, book.other)


def slow_doubts(sayings):
    """Every doubt of these sayings but begin, with its answers and what is said by it."""
    found = {}
    for saying in sayings:
        sort, sides = saying[0], saying[1:]
        if sort == "and":
            found["left", saying] = ({sides[0]}, None)
            found["right", saying] = ({sides[1]}, None)
        elif sort == "or":
            found["which", saying] = (set(sides), None)
        elif sort == "if":
            found["if", saying] = ({sides[1]}, sides[0])
        elif sort == "not":
            found["not", saying] = (set(), sides[0])
    return found


def slow_moves(book, standing):
    said, unanswered, used, fresh = standing
    found = set()
    for word, saying in unanswered:
        answers = {saying} if word == "begin" else slow_doubts([saying])[word, saying][0]
        found |= {("answer", (word, saying), answer) for answer in answers if answer[0] != "say" or answer in said}
    spoken_of = {"any": said, "last": fresh}[book.speaks]
    for (word, saying), (_, says) in slow_doubts(spoken_of).items():
        if book.doubts == "once" and (word, saying) in used:
            continue
        if says and says[0] == "say" and says not in said:
            continue
        found.add(("doubt", word, saying))
    return sorted(found)


def slow_told(move):
    return move[2] if move[0] == "answer" else slow_doubts([move[2]])[move[1], move[2]][1]


def slow_replies(move):
    told = slow_told(move)
    found = {("doubt", word) for word, _ in slow_doubts([told] if told else [])}
    if move[0] == "doubt":
        found |= {("answer", answer) for answer in slow_doubts([move[2]])[move[1], move[2]][0]}
    return sorted(found)


def slow_after(book, standing, move, reply):
    said, unanswered, used, fresh = map(set, standing)
    told = slow_told(move)
    if reply[0] == "answer":
        now, made = {reply[1]}, set()
    else:
        made = {(reply[1], told)}
        now = {slow_doubts([told])[reply[1], told][1]} - {None}
    if book.speaks == "any" and book.answers == "any":
        answered = {move[1]} if move[0] == "answer" and book.again == "once" else set()
        unanswered = (unanswered - answered) | made
    elif made or book.speaks == "last":
        unanswered = made
    if book.doubts == "once" and move[0] == "doubt":
        used |= {(move[1], move[2])}
    fresh = now if book.speaks == "last" else set()
    return tuple(tuple(sorted(field)) for field in (said | now, unanswered, used, fresh))


def plain_graph(book, saying):
    """Of each reached standing the moves there, and of each move its replies with the standings behind them."""
    graph, waiting = {}, [((), (("begin", saying),), (), ())]
    while waiting:
        standing = waiting.pop()
        if standing not in graph:
            graph[standing] = {
                move: {reply: slow_after(book, standing, move, reply) for reply in slow_replies(move)}
                for move in slow_moves(book, standing)
            }
            waiting.extend(told for on in graph[standing].values() for told in on.values())
    return graph


def plain_numbers(book, saying):
    """Of each reached standing the least number of rounds, by asking again and again whether it goes within k."""
    graph = plain_graph(book, saying)
    within = {standing: None for standing in graph}
    for rounds in range(1, len(graph) + 1):
        won = {standing for standing, number in within.items() if number is not None}
        for standing in graph:
            if standing not in won and any(set(on.values()) <= won for on in graph[standing].values()):
                within[standing] = rounds
    return within


def walked_talks(book, saying, side, rows):
    """All talks that go by these rows, walked one by one to where they end or a row lacks: steps, standings, how it ended.

    rows are a dict of what the side plays, by (standing,) or (standing, move); an end is "first", "other", or None
    where the row lacks or tells what can't be.
    """
    waiting = [((), (((), (("begin", saying),), (), ()),))]
    while waiting:
        steps, stood = waiting.pop()
        can = [] if stood[-1] in stood[:-1] else slow_moves(book, stood[-1])
        if not can:
            yield steps, stood, "other"
            continue
        if side == "first":
            if rows.get((stood[-1],)) not in can:
                yield steps, stood, None
                continue
            can = [rows[(stood[-1],)]]
        for move in can:
            back = slow_replies(move)
            if back and side == "other":
                told = rows.get((stood[-1], move))
                if told not in back:
                    yield steps + (move,), stood, None
                    continue
                back = [told]
            if not back:
                yield steps + (move,), stood, "first"
            for reply in back:
                waiting.append((steps + (move, reply), stood + (slow_after(book, stood[-1], move, reply),)))


def rows_by_place(plan):
    """What a plan tells, by all of each row but its last thing."""
    return {row[:-1]: row[-1] for row in plan}


def plain_wins(book, saying, side, plan):
    """Whether a plan wins, by walking every talk."""
    if list(plan) != sorted(plan) or len(rows_by_place(plan)) < len(plan):
        return False
    return all(end == side for _, _, end in walked_talks(book, saying, side, rows_by_place(plan)))


def plain_places(book, saying, side, plan):
    """The places, (standing,) or (standing, move), that the talks by a winning plan come to, sorted."""
    found = set()
    for steps, stood, _ in walked_talks(book, saying, side, rows_by_place(plan)):
        moves_made = steps[::2]
        for number, move in enumerate(moves_made):
            found.add((stood[number],) if side == "first" else (stood[number], move))
    return sorted(found)


def plan_with_detours(book, saying, dice):
    """A plan of the first that wins, by chance, not the shortest; None where there is none."""
    graph = plain_graph(book, saying)
    picked = {}
    while True:
        can = [
            (standing, move)
            for standing in sorted(graph)
            for move, back in graph[standing].items()
            if standing not in picked and all(told in picked for told in back.values())
        ]
        if not can:
            break
        standing, move = dice.choice(can)
        picked[standing] = move
    return tuple(sorted(picked.items())) if ((), (("begin", saying),), (), ()) in picked else None


def some_saying(dice, many, names):
    """A saying of so many parts by chance."""
    if many == 1:
        return ("say", dice.choice(names))
    if many == 2 or dice.random() < 0.25:
        return ("not", some_saying(dice, many - 1, names))
    left = dice.randint(1, many - 2)
    word = dice.choice(("and", "or", "if"))
    return (word, some_saying(dice, left, names), some_saying(dice, many - 1 - left, names))


def is_true(saying, names):
    """Whether a saying is true where just these names are."""
    if saying[0] == "say":
        return saying[1] in names
    sides = [is_true(side, names) for side in saying[1:]]
    return {"not": not sides[0], "and": all(sides), "or": any(sides), "if": not sides[0] or sides[-1]}[saying[0]]


def is_always_true(saying):
    every = names_in(saying)
    rows = [row for many in range(len(every) + 1) for row in itertools.combinations(every, many)]
    return all(is_true(saying, row) for row in rows)


def every_condition(saying):
    """Each sort of condition of this saying that joins no others, with each word."""
    found = [ANY] + [(sort, saying) for sort in ("said", "fresh", "heard")]
    found.extend((sort, word, saying) for sort in ("open", "used", "asked", "answered") for word in WORDS)
    return found


def every_deed(saying):
    """Each sort of deed of this saying, with each word."""
    found = [("answer", saying), ("move", 0), ("move", 1), ("move", 999)]
    found.extend(("doubt", word, saying) for word in WORDS[1:])
    return found + [("doubt", word) for word in WORDS[1:]]


def some_condition(dice, sayings, deep):
    """A condition by chance that nests at most so deep."""
    sort = dice.choice(("not", "and", "or", "single", "single")) if deep else "single"
    if sort == "single":
        return dice.choice(every_condition(dice.choice(sayings)))
    return (sort,) + tuple(some_condition(dice, sayings, deep - 1) for _ in range(1 if sort == "not" else 2))


def some_program(dice, sayings, many, deep=2):
    """A program of so many rows by chance."""
    return tuple((some_condition(dice, sayings, deep), dice.choice(every_deed(dice.choice(sayings)))) for _ in range(many))


def drawn_plan_of_other(book, saying, dice):
    """A plan of the other that wins, by chance, with rows that aren't come to; None where there is none."""
    graph, within = plain_graph(book, saying), plain_numbers(book, saying)
    if within[((), (("begin", saying),), (), ())] is not None:
        return None
    return tuple(sorted(
        (standing, move, dice.choice([reply for reply in back if within[back[reply]] is None]))
        for standing in graph
        if within[standing] is None
        for move, back in graph[standing].items()
    ))


def good_webs(many, names=("a", "b")):
    """All good webs of so many worlds over these names."""
    rows = [row for length in range(len(names) + 1) for row in itertools.combinations(sorted(names), length)]
    pairs = list(itertools.combinations(range(many), 2))
    for flags in itertools.product((False, True), repeat=len(pairs)):
        order = {pair for pair, flag in zip(pairs, flags) if flag}
        if any((i, k) not in order for i, j in order for at, k in order if at == j):
            continue
        later = [tuple(sorted(j for i, j in order if i == at)) for at in range(many)]
        for true in itertools.product(rows, repeat=many):
            if all(set(true[i]) <= set(true[j]) for i, j in order):
                yield tuple(zip(true, later))


def slow_bears(web, world, saying):
    """Whether a world bears a saying, by recursion."""
    names, later = web[world]
    sort, sides = saying[0], saying[1:]
    if sort == "say":
        return sides[0] in names
    if sort == "and":
        return slow_bears(web, world, sides[0]) and slow_bears(web, world, sides[1])
    if sort == "or":
        return slow_bears(web, world, sides[0]) or slow_bears(web, world, sides[1])
    here = [other for other in (world,) + later if slow_bears(web, other, sides[0])]
    return not here if sort == "not" else all(slow_bears(web, other, sides[1]) for other in here)
