"""What several modules need: sorted lists without anything twice, all that is within a thing, words between blanks."""


def sorted_once(things):
    """A new sorted list of these things, none twice."""
    # Sayings may nest too deep to be members of a set; sorted, equal things stand side by side.
    once = []
    for thing in sorted(things):
        if not once or once[-1] != thing:
            once.append(thing)
    return once


def all_within(whole, sides_of):
    """A list of a whole and all within it, each as often as it stands there, a thing ahead of its sides, in order."""
    # A list of what is left to look at, not a recursion: the whole may nest as deep as it likes.
    found = []
    waiting = [whole]
    while waiting:
        thing = waiting.pop()
        found.append(thing)
        waiting.extend(sides_of(thing)[::-1])
    return found


def words_between_blanks(row):
    """The words of a row, parted by one blank or more; other white space is a sign like any other."""
    return [word for word in row.split(" ") if word]
