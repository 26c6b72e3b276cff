"""Plans: the kinds of letters that raise the number, and the rules."""

from overtaken.checks import is_place, is_sequence
from overtaken.errors import InvalidPlan, InvalidText, NoRule
from overtaken.rules import LETTERS, Rule


def are_raises(value):
    """Whether value is a sequence of kinds of letters, each at most once."""
    if not is_sequence(value) or not all([kind in LETTERS for kind in value]):
        return False
    return len(set(value)) == len(value)


def are_rules(value):
    """Whether value is a sequence of rules."""
    return is_sequence(value) and all([isinstance(rule, Rule) for rule in value])


def read_rule(line, at):
    """The rule in this line, which has the number at in the text of a plan."""
    try:
        return Rule.read(line)
    except InvalidText:
        raise InvalidText(at) from None


class Plan:
    """The kinds of letters that raise the number, and rules in their order."""

    def __init__(self, raises=(), rules=()):
        if not are_raises(raises):
            raise InvalidPlan("raises")
        if not are_rules(rules):
            raise InvalidPlan("rules")
        self.raises = tuple(sorted(raises))
        self.rules = tuple(rules)

    @classmethod
    def read(cls, text):
        """The plan with this text; the kinds that raise may stand in any order."""
        first, *lines = text.split("\n")
        word, *raises = first.split(" ")
        if word != "raise" or not are_raises(raises):
            raise InvalidText(0)
        rules = [read_rule(line, at) for at, line in enumerate(lines, start=1)]
        return cls(raises, rules)

    def without(self, at):
        """The plan without the rule at this index."""
        if not is_place(at, len(self.rules)):
            raise NoRule(at)
        return Plan(self.raises, self.rules[:at] + self.rules[at + 1:])

    def raising(self, raises):
        """The plan with these kinds as those that raise."""
        return Plan(raises, self.rules)

    def __len__(self):
        return len(self.rules)

    def __getitem__(self, at):
        if not is_place(at, len(self.rules)):
            raise NoRule(at)
        return self.rules[at]

    def __iter__(self):
        raise TypeError("a plan is not iterable")

    def __add__(self, other):
        if not isinstance(other, Plan):
            return NotImplemented
        raises = [kind for kind in LETTERS if kind in self.raises or kind in other.raises]
        return Plan(raises, self.rules + other.rules)

    def __eq__(self, other):
        return isinstance(other, Plan) and self.raises == other.raises and self.rules == other.rules

    def __str__(self):
        lines = [" ".join(["raise", *self.raises])]
        lines.extend([str(rule) for rule in self.rules])
        return "\n".join(lines)
