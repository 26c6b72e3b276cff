"""What can happen in all weavings of a plan."""

from overtaken.acting import answer_rule, letter_rule
from overtaken.checks import GOALS, check_goal, is_place
from overtaken.errors import NoRule
from overtaken.lines import letters_of
from overtaken.rows import events_of
from overtaken.standings import Standings, explore, is_level, shown_letter


def happens(plan, goal):
    """Whether some weaving comes to the goal."""
    check_goal(goal)
    _, met = explore(Standings(plan), goal)
    return met is not None


def way_to(standing, origins):
    """The standing at which the way to this one begins, and the steps on it in their order."""
    steps = []
    while origins[standing] is not None:
        ahead, told = origins[standing]
        steps.append((ahead, told))
        standing = ahead
    return standing, steps[::-1]


def events_to(standing, origins):
    """The deeds and comings of a weaving that leads to this standing."""
    start, steps = way_to(standing, origins)
    return events_of(start[0], [(ahead[0], *told) for ahead, told in steps if told is not None])


def answer_events(plan, over):
    """An answer is given and comes; in between the number is raised for another day if it has to be over."""
    between = "other day" if "day" in plan.raises else "other off"
    return ["answer", between, "heard 0"] if over else ["answer", "heard 0"]


def weaving(plan, goal):
    """Some weaving that comes to the goal with the fewest events that are no deeds, or None."""
    check_goal(goal)
    origins, met = explore(Standings(plan), goal)
    if met is None:
        return None
    events = events_to(met, origins)
    if goal in ("deaf", "wrong"):
        events.extend(answer_events(plan, met[2]))
    return tuple(events)


def goals_among(plan, wanted):
    """Those of the wanted goals that happen, ascending."""
    standings = Standings(plan)
    return tuple([goal for goal in GOALS if goal in wanted and explore(standings, goal)[1] is not None])


def goals(plan):
    """The goals that happen, ascending."""
    return goals_among(plan, GOALS)


def all_standings(plan):
    """The standings for answers, all that come about; and what they were found with."""
    standings = Standings(plan)
    origins, _ = explore(standings, "wrong", False)
    return list(origins), standings


def comes(plan, at):
    """Whether some weaving does the rule at this index."""
    if not is_place(at, len(plan)):
        raise NoRule(at)
    rows, standings = all_standings(plan)
    cases = {case: True for case in standings.effects if letter_rule(plan, *case) == at}
    for line, given, over in rows:
        if given != "":
            found = answer_rule(plan, is_level(given, over)) == at
        else:
            found = any([case in cases for _, case in standings.letters_to_come(line)])
        if found:
            return True
    return False


def shown(plan):
    """The kinds of the letters that are shown in some weaving, ascending."""
    rows, _ = all_standings(plan)
    letters = [shown_letter(letters_of(line)) for line, _, _ in rows]
    return tuple(sorted(set([letter[3] for letter in letters if letter is not None])))
