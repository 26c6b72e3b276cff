"""Standings for a goal: where they begin, the steps from them, and which meet the goal (promises [18] and [19])."""

from overtaken.acting import counts, effects, is_whole_kind, relation
from overtaken.lines import first_lines, further_letters, letters_of, line_of

# To whom an answer was given: to the newest letter, to another one of its stretch, or to another one.
NEWEST = "newest"
LEVEL = "level"
ELDER = "elder"


def shown_letter(held):
    """The letter that the copy shows, or None; held tells which letter bears each mark."""
    return held.get("o", held.get("w"))


def asks(letter):
    """Whether a letter is there and can be answered."""
    return letter is not None and letter[3] in ("ask", "day")


def moved(held, letter, takes, wipes):
    """Which letters bear the marks when a coming with this effect has changed the parts."""
    behind = {mark: held[mark] for mark in held if not wipes or mark != "o"}
    if takes:
        behind["w" if is_whole_kind(letter[3]) else "o"] = letter
    return behind


def taken_in(held):
    """The same with the mark c at the letter that is shown, if it is a stop or off sent later than the one with it."""
    letter = shown_letter(held)
    if letter is None or asks(letter) or "c" in held and held["c"] >= letter:
        return held
    return {**held, "c": letter}


def given_to(held):
    """To whom an answer is given."""
    letter, newest = shown_letter(held), held["n"]
    if letter == newest:
        return NEWEST
    return LEVEL if letter[0] == newest[0] else ELDER


def is_level(given, over):
    """Whether the test for answers holds if the answer that was given so comes."""
    return given != ELDER and not over


class Standings:
    """The standings under one plan; what comes of a line is kept, for several goals ask for it."""

    def __init__(self, plan):
        self.raises = plan.raises
        self.effects = effects(plan)
        self.counts = {level: counts(plan, level) for level in (True, False)}
        self.overs = (True,) if "day" in plan.raises or "off" in plan.raises else ()
        self.found = {}

    def beginnings(self, goal):
        """The standings in which nothing has come yet."""
        if goal == "back":
            return [((),)]
        rest = (False, False) if goal in ("elder", "lost") else ("", False)
        return [(line, *rest) for line in first_lines(self.raises)]

    def letters_to_come(self, line):
        """The letters that may come, each with what its rule hangs on."""
        held = letters_of(line)
        whole, own = held.get("w"), held.get("o")
        letters = list(held.values()) + further_letters(line, self.raises)
        return [(letter, (letter[3], relation(letter, whole), relation(letter, own))) for letter in letters]

    def behind(self, held, letter, case):
        """Which letters bear the marks behind the coming of this one in this case."""
        takes, wipes = self.effects[case]
        behind = moved(held, letter, takes, wipes)
        return behind if "n" in held else taken_in(behind)

    def look_for(self, line):
        """What comings returns, worked out."""
        held = letters_of(line)
        found = {}
        for letter, case in self.letters_to_come(line):
            behind = self.behind(held, letter, case)
            line_behind = line if behind == held else line_of(behind)
            found.setdefault((line_behind, letter == held.get("n")), (letter, behind))
        return found

    def comings(self, line):
        """The lines behind a coming, each with whether the newest letter came; for each of these a letter that may
        have come, and which letters bear the marks then."""
        if line not in self.found:
            self.found[line] = self.look_for(line)
        return self.found[line]

    def steps(self, goal, standing):
        """The standings behind each step, each with an example of what comings tells, or None if no letter came."""
        if goal == "back":
            return [((line,), told) for (line, _), told in self.comings(standing[0]).items()]
        if goal in ("elder", "lost"):
            return self.flagged_steps(*standing)
        return self.answered_steps(*standing)

    def flagged_steps(self, line, came, shown):
        """The steps for "elder" and "lost"."""
        rows = []
        for (behind, newest), told in self.comings(line).items():
            _, held = told
            rows.append(((behind, came or newest, shown or shown_letter(held) == held["n"]), told))
        return rows

    def answered_steps(self, line, given, _):
        """The steps for "deaf" and "wrong", but for the coming of an answer, which changes nothing."""
        if given != "":
            return [(((), given, over), None) for over in self.overs]
        rows = [((behind, "", False), told) for (behind, _), told in self.comings(line).items()]
        held = letters_of(line)
        if asks(shown_letter(held)):
            # A letter about another day is no event that counts: over can be True as soon as the answer is given.
            rows.extend([(((), given_to(held), over), None) for over in (False, *self.overs)])
        return rows

    def meets(self, goal, standing):
        """Whether a standing meets the goal, or the answer that is given in it does when it comes."""
        if goal in ("deaf", "wrong"):
            return self.answer_meets(goal, *standing)
        held = letters_of(standing[0])
        letter = shown_letter(held)
        if goal == "back":
            return asks(letter) and "c" in held and letter < held["c"]
        _, came, shown = standing
        reached = came if goal == "elder" else shown and held["n"][3] == "day"
        return reached and letter != held["n"]

    def answer_meets(self, goal, _, given, over):
        """Whether the coming of the answer that is given meets the goal."""
        if given == "":
            return False
        counted = self.counts[is_level(given, over)]
        return counted and given != NEWEST if goal == "wrong" else not counted and given == NEWEST


def explore(standings, goal, stops=True):
    """The standings that come about, nearest first, each with the one ahead of it and the step from there, or None;
    and the first one that meets the goal, where it stops, or None."""
    origins = {standing: None for standing in standings.beginnings(goal)}
    queue = list(origins)
    at = 0
    while at < len(queue):
        standing = queue[at]
        if stops and standings.meets(goal, standing):
            return origins, standing
        for behind, told in standings.steps(goal, standing):
            if behind not in origins:
                origins[behind] = standing, told
                queue.append(behind)
        at += 1
    return origins, None
