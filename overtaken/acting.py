"""What a plan does with a letter or an answer that comes."""

from overtaken.rules import ANSWER, LETTERS, NOT

# How a letter that comes stands to a part of the copy: there is no such part; the letter has a greater number; it bears
# the same number and was sent later; it bears the same number and was not sent later; it has a lower number.
RELATIONS = ("nothing", "above", "later", "level", "below")

# With which relations a test holds, by the word in front of the part.
HOLDS = {
    "": ("above", "later", "level", "below"),
    "above": ("above",),
    "level": ("later", "level"),
    "later": ("above", "later"),
}


def relation(letter, part):
    """How a letter stands to a part; both are tuples that begin with the number and the place in the row."""
    if part is None:
        return "nothing"
    if letter[0] != part[0]:
        return "above" if letter[0] > part[0] else "below"
    return "later" if letter[1] > part[1] else "level"


def holds(test, to_whole, to_own):
    """Whether a test holds for a letter that stands so to the parts."""
    word, _, part = test.removeprefix(NOT).rpartition(" ")
    plainly = (to_whole if part == "whole" else to_own) in HOLDS[word]
    return plainly != test.startswith(NOT)


def letter_rule(plan, kind, to_whole, to_own):
    """The index of the rule that is done with a letter that stands so to the parts, or None."""
    for at, rule in enumerate(plan.rules):
        if rule.kind == kind and all([holds(test, to_whole, to_own) for test in rule.tests]):
            return at
    return None


def answer_rule(plan, level):
    """The index of the rule that is done with an answer, or None; level is whether this test holds."""
    for at, rule in enumerate(plan.rules):
        if rule.kind == ANSWER and all([level != test.startswith(NOT) for test in rule.tests]):
            return at
    return None


def deeds_of(plan, at):
    """The deeds of the rule at this index; none for None."""
    return () if at is None else plan.rules[at].deeds


def is_whole_kind(kind):
    """Whether letters of this kind are about all days of the row."""
    return kind in ("ask", "stop")


def effect(kind, deeds):
    """Whether the letter is a part when all deeds are done, and whether they took the own part away."""
    if is_whole_kind(kind):
        return "take" in deeds, "wipe" in deeds
    # Both deeds are about the own part, so the last one alone tells.
    return deeds[-1:] == ("take",), deeds[-1:] == ("wipe",)


def effects(plan):
    """The effect of each coming, by the kind of the letter and how it stands to the parts."""
    return {
        (kind, to_whole, to_own): effect(kind, deeds_of(plan, letter_rule(plan, kind, to_whole, to_own)))
        for kind in LETTERS
        for to_whole in RELATIONS
        for to_own in RELATIONS
    }


def counts(plan, level):
    """Whether an answer is counted behind its coming if none was ahead of it."""
    return deeds_of(plan, answer_rule(plan, level))[-1:] == ("count",)
