"""What the program refuses with."""


class TalkError(ValueError):
    """Any refusal."""


class NoText(TalkError):
    """A text that writes nothing that was asked for, or what is no text."""


class NoBook(TalkError):
    """A text that writes no book; row is the number of the row that is wrong."""

    def __init__(self, row):
        self.row = row


class NotLet(TalkError):
    """A book that isn't let by."""


class NoMove(TalkError):
    """A step that can't be; number is how many steps were done ahead."""

    def __init__(self, number):
        self.number = number


class NoPlan(TalkError):
    """A plan that doesn't do what is asked of it."""


class NoTalker(TalkError):
    """A text that writes no program; row is the number of the row that is wrong."""

    def __init__(self, row):
        self.row = row


class NoPaper(TalkError):
    """A paper that isn't good; row is the number of the first row that isn't."""

    def __init__(self, row):
        self.row = row


class NoWeb(TalkError):
    """A web that isn't good; world is the number of the first world that isn't."""

    def __init__(self, world):
        self.world = world


class NoRow(TalkError):
    """A row that the desk doesn't know."""


class NoName(TalkError):
    """A name that isn't one, or under which nothing is kept; name is as it was told."""

    def __init__(self, name):
        self.name = name
