"""What has to raise the number, and which rules are needed, so that wanted goals do not happen."""

from overtaken.checks import check_goal
from overtaken.deciding import goals_among
from overtaken.rules import LETTERS


def check_wanted(wanted):
    """Raise an error if something wanted is no goal."""
    for goal in wanted:
        check_goal(goal)


def sets_of_kinds():
    """All sets of kinds of letters as ascending tuples, shorter ones first, then ascending."""
    rows = [()]
    for kind in LETTERS:
        rows = rows + [(*row, kind) for row in rows]
    return sorted(sorted(rows), key=len)


def has_part(kinds, others):
    """Whether one of the others is a part of this set of kinds."""
    return any([all([kind in kinds for kind in other]) for other in others])


def least_raises(plan, wanted):
    """The least sets of kinds with which as those that raise none of the wanted goals happens."""
    check_wanted(wanted)
    found = []
    for kinds in sets_of_kinds():
        # The parts of a set stand ahead of it; those with which no goal happens have a least one as a part.
        if not has_part(kinds, found) and goals_among(plan.raising(kinds), wanted) == ():
            found.append(kinds)
    return tuple(found)


def rules_without_which(plan, wanted, expected):
    """The indexes of the rules without which, each alone, just the expected ones of the wanted goals happen."""
    return tuple([at for at in range(len(plan)) if goals_among(plan.without(at), wanted) == expected])


def needless_rules(plan, wanted):
    """The indexes of the rules without which, each alone, the same wanted goals happen."""
    check_wanted(wanted)
    return rules_without_which(plan, wanted, goals_among(plan, wanted))


def repairs(plan, wanted):
    """The indexes of the rules without which, each alone, none of the wanted goals happens."""
    check_wanted(wanted)
    return rules_without_which(plan, wanted, ())
