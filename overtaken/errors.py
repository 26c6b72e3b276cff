"""The errors of the package."""


class LetterError(ValueError):
    """The base class of the errors about values that are passed."""


class InvalidRule(LetterError):
    """A rule cannot be made: the word tells which argument is wrong."""

    def __init__(self, word):
        self.word = word


class InvalidPlan(LetterError):
    """A plan cannot be made: the word tells which argument is wrong."""

    def __init__(self, word):
        self.word = word


class InvalidText(LetterError):
    """A text cannot be read: at is the number of the first wrong line."""

    def __init__(self, at):
        self.at = at


class InvalidWeaving(LetterError):
    """A weaving cannot be played: at is the index of the first wrong event."""

    def __init__(self, at):
        self.at = at


class InvalidGoal(LetterError):
    """A value is no goal."""


class InvalidCommand(LetterError):
    """A desk does not know the form of a command."""


class Mismatch(LetterError):
    """In two plans not the same kinds raise the number."""


class Refused(LetterError):
    """A post refuses a deed: the word tells which argument is wrong."""

    def __init__(self, word):
        self.word = word


class NoRule(IndexError):
    """A plan has no rule at this index."""

    def __init__(self, at):
        self.at = at
