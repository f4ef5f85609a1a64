"""What several modules need: things in order, all that is within a thing, words and numbers of a text."""

from talkcourt.errors import NoText


def sorted_once(things):
    """A new sorted list of these things, none twice."""
    # Sayings may nest too deep to be members of a set; sorted, equal things stand side by side.
    once = []
    for thing in sorted(things):
        if not once or once[-1] != thing:
            once.append(thing)
    return once


def is_rising(things):
    """Whether they are sorted, none twice."""
    return all([one < later for one, later in zip(things, things[1:])])


def all_within(whole, sides_of):
    """A list of a whole and all within it, each as often as it stands there, a thing ahead of its sides, in order."""
    # A list of what is left to look at, not a recursion: the whole may nest as deep as it likes.
    found = []
    waiting = [whole]
    while waiting:
        thing = waiting.pop()
        found.append(thing)
        waiting.extend(sides_of(thing)[::-1])
    return found


def words_between_blanks(row):
    """The words of a row, parted by one blank or more; other white space is a sign like any other."""
    return [word for word in row.split(" ") if word]


def words_and_brackets(row):
    """The words and brackets of a row, in order; about brackets there need be no blanks."""
    return words_between_blanks(row.replace("(", " ( ").replace(")", " ) "))


def read_number(word, most_figures):
    """The number that a word writes by figures, at most so many, the first no 0 but in 0 itself, or NoText."""
    if not 1 <= len(word) <= most_figures or not all(["0" <= sign <= "9" for sign in word]):
        raise NoText()
    if word[0] == "0" and word != "0":
        raise NoText()
    return int(word)
