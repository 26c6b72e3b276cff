"""Papers: tables of standings with which anybody can check that a goal does not happen."""

from overtaken.checks import check_goal
from overtaken.lines import is_sound, letters_of
from overtaken.standings import ELDER, LEVEL, NEWEST, Standings, explore


def paper(plan, goal):
    """Some right paper for the goal, or None if the goal happens."""
    check_goal(goal)
    origins, met = explore(Standings(plan), goal)
    return tuple(origins) if met is None else None


def is_newest_line(value, raises):
    """Whether value is a sound line with the newest letter in it and without the mark c."""
    if not is_sound(value, raises):
        return False
    held = letters_of(value)
    return "n" in held and "c" not in held


def is_standing(value, raises, goal):
    """Whether value has the form of a standing for the goal, with a sound line."""
    if not isinstance(value, tuple) or len(value) != (1 if goal == "back" else 3):
        return False
    if goal == "back":
        return is_sound(value[0], raises) and "n" not in letters_of(value[0])
    line, before, after = value
    if not isinstance(after, bool):
        return False
    if goal in ("elder", "lost"):
        return isinstance(before, bool) and is_newest_line(line, raises)
    if before == "":
        return not after and is_newest_line(line, raises)
    return line == () and before in (NEWEST, LEVEL, ELDER)


def paper_holds(plan, goal, value):
    """Whether any value is a right paper for the goal."""
    check_goal(goal)
    if not isinstance(value, tuple) or not all([is_standing(item, plan.raises, goal) for item in value]):
        return False
    rows = {standing: True for standing in value}
    standings = Standings(plan)
    if not all([standing in rows for standing in standings.beginnings(goal)]):
        return False
    for standing in rows:
        if standings.meets(goal, standing):
            return False
        if not all([behind in rows for behind, _ in standings.steps(goal, standing)]):
            return False
    return True
