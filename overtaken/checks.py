"""What kind of value is passed."""

from overtaken.errors import InvalidGoal

# Ascending, so that a choice of them is ascending, too.
GOALS = ("back", "deaf", "elder", "lost", "wrong")


def is_sequence(value):
    """Whether value is a list or a tuple."""
    return isinstance(value, (list, tuple))


def is_integer(value):
    """Whether value is an integer and not a bool."""
    return isinstance(value, int) and not isinstance(value, bool)


def is_place(value, many):
    """Whether value is the index, counted from 0, of one of so many things."""
    return is_integer(value) and 0 <= value < many


def is_name(value):
    """Whether value is a string of 1 to 4 lower-case letters a to z."""
    if not isinstance(value, str) or not 1 <= len(value) <= 4:
        return False
    return value.isascii() and value.isalpha() and value.islower()


def read_place(value, word, many):
    """The place, of so many, that a text tells behind this word in decimal digits; None for anything else."""
    if not isinstance(value, str) or not value.startswith(word):
        return None
    digits = value.removeprefix(word)
    # Python refuses to read very long numbers; none that is longer than the count can be a place.
    if len(digits) > len(str(many)) or not digits.isdecimal():
        return None
    place = int(digits)
    return place if place < many and str(place) == digits else None


def check_goal(value):
    """Raise an error if value is no goal."""
    if value not in GOALS:
        raise InvalidGoal()
