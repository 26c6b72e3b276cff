"""Any values, as promise [1] tells, and helpers for the tests."""

from overtaken import errors
from overtaken.desk import Desk
from overtaken.plans import Plan
from overtaken.post import Post
from overtaken.rules import Rule

WORDS = [
    "", " ", "ask", "day", "stop", "off", "answer", "Ask", "ask ", " ask", "ask\n", "other", "level", "whole",
    "take", "count", "not", "not whole", "not level", "on ask", "raise", "\n", "a b", "asks",
]


def nested(value, deep):
    """The value in so many lists and tuples, one in another."""
    for turn in range(deep):
        value = [value] if turn % 2 else (value,)
    return value


def no_sequences():
    """Any values that are no list and no tuple."""
    return [
        None, True, False, 0, 1, -1, 4, 10 ** 30, 2 ** 20000,
        *WORDS,
        Rule("ask"), Rule("answer", ["level"], ["count"]),
        Plan(), Plan(["ask"], [Rule("ask", [], ["take"])]),
        Post(Plan()), Desk(), errors.LetterError("x"), errors.InvalidRule("kind"), errors.InvalidGoal(), errors.NoRule(0),
    ]


def sequences():
    """Any values that are lists or tuples, of each of the others and nested, too."""
    rows = [[], ()]
    for value in no_sequences():
        rows.extend([[value], (value,), [value, value], ["ask", value], [[value]], nested(value, 8)])
    rows.extend([[[]], ((),), [()], nested([], 7), ["ask", "day"], ("day", "ask"), [["ask"], ["day"]]])
    return rows


def any_values():
    """Any values of all kinds."""
    return no_sequences() + sequences()


def refusal(call, *args, **named):
    """The class and the attributes of the error that the call raises, or None."""
    try:
        call(*args, **named)
    except Exception as error:
        return error.__class__, vars(error)
    return None
