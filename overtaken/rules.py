"""Rules: what is done if a letter or an answer comes."""

from overtaken.checks import is_sequence
from overtaken.errors import InvalidRule, InvalidText

# Ascending, so that a choice of them is ascending, too.
LETTERS = ("ask", "day", "off", "stop")
ANSWER = "answer"

LETTER_TESTS = (
    "whole", "own", "above whole", "above own", "level whole", "level own", "later whole", "later own",
)
LETTER_DEEDS = ("take", "wipe")
ANSWER_TESTS = ("level",)
ANSWER_DEEDS = ("count", "drop")
NOT = "not "


def is_kind(value):
    """Whether value is a kind that a rule may have."""
    return value in LETTERS or value == ANSWER


def is_test(kind, value):
    """Whether value is a test, or one with `not`, of rules of this kind."""
    known = ANSWER_TESTS if kind == ANSWER else LETTER_TESTS
    return isinstance(value, str) and value.removeprefix(NOT) in known


def is_deed(kind, value):
    """Whether value is a deed of rules of this kind."""
    known = ANSWER_DEEDS if kind == ANSWER else LETTER_DEEDS
    return value in known


def split_part(sign, text, between):
    """The items of a part of a rule's text; none if its sign is not there."""
    return text.split(between) if sign else ()


class Rule:
    """What is done with a letter of this kind, or an answer, if the tests hold."""

    def __init__(self, kind, tests=(), deeds=()):
        if not is_kind(kind):
            raise InvalidRule("kind")
        if not is_sequence(tests) or not all([is_test(kind, test) for test in tests]):
            raise InvalidRule("tests")
        if not is_sequence(deeds) or not all([is_deed(kind, deed) for deed in deeds]):
            raise InvalidRule("deeds")
        self.kind = kind
        self.tests = tuple(tests)
        self.deeds = tuple(deeds)

    @classmethod
    def read(cls, text):
        """The rule with this text."""
        # No kind, test or deed contains a sign, so the first one found is the only one.
        condition, does, deeds = text.partition(" do ")
        start, asks, tests = condition.partition(" if ")
        on, _, kind = start.partition(" ")
        if on != "on":
            raise InvalidText(0)
        try:
            return cls(kind, split_part(asks, tests, " and "), split_part(does, deeds, " then "))
        except InvalidRule:
            raise InvalidText(0) from None

    def __eq__(self, other):
        return (
            isinstance(other, Rule)
            and self.kind == other.kind
            and self.tests == other.tests
            and self.deeds == other.deeds
        )

    def __str__(self):
        parts = [f"on {self.kind}"]
        if self.tests:
            parts.append("if " + " and ".join(self.tests))
        if self.deeds:
            parts.append("do " + " then ".join(self.deeds))
        return " ".join(parts)
