"""What kind of value is passed: questions that never raise an error."""


def is_sequence(value):
    """Whether value is a list or a tuple."""
    return isinstance(value, (list, tuple))


def is_integer(value):
    """Whether value is an integer and not a bool."""
    return isinstance(value, int) and not isinstance(value, bool)


def is_place(value, many):
    """Whether value is the index, counted from 0, of one of so many things."""
    return is_integer(value) and 0 <= value < many
