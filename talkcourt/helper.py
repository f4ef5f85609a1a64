"""What several modules need: sorted lists without anything twice, and words between blanks."""


def sorted_once(things):
    """A new sorted list of these things, none twice."""
    # Sayings may nest too deep to be members of a set; sorted, equal things stand side by side.
    once = []
    for thing in sorted(things):
        if not once or once[-1] != thing:
            once.append(thing)
    return once


def words_between_blanks(row):
    """The words of a row, parted by one blank or more; other white space is a sign like any other."""
    return [word for word in row.split(" ") if word]
