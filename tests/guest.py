"""A guest and a caller, told by other means than the program's: what comes of a weaving, and what can come of any."""

from itertools import product

LETTERS = ("ask", "day", "off", "stop")
PARTS = {"ask": "whole", "stop": "whole", "day": "own", "off": "own"}
EVENTS = ("come", "answer", "heard")


def holds(test, letter, copy):
    """Whether a test holds; the letter and the parts in the copy are pairs of number and place."""
    if test.startswith("not "):
        return not holds(test[4:], letter, copy)
    part = copy.get(test.split(" ")[-1])
    if part is None:
        return False
    return {"above": letter[0] > part[0], "level": letter[0] == part[0], "later": letter[1] > part[1]}.get(
        test.split(" ")[0], True
    )


def first_rule(plan, kind, asked):
    """The index and the deeds of the first rule of this kind all of whose tests hold."""
    for at, rule in enumerate(plan.rules):
        if rule.kind == kind and all(asked(test) for test in rule.tests):
            return at, rule.deeds
    return None, ()


def letter_comes(plan, kind, letter, copy):
    """The index of the rule that is done, and the copy behind it."""
    at, deeds = first_rule(plan, kind, lambda test: holds(test, letter, copy))
    copy = dict(copy)
    for deed in deeds:
        if deed == "take":
            copy[PARTS[kind]] = letter
        else:
            copy.pop("own", None)
    return at, copy


def answer_comes(plan, level, counted, answer):
    """The index of the rule that is done, and the answer that is counted behind it."""
    at, deeds = first_rule(plan, "answer", lambda test: level == (test == "level"))
    for deed in deeds:
        counted = answer if deed == "count" else None
    return at, counted


def numbers_of(plan, kinds):
    """The numbers of letters of these kinds."""
    return [sum(kind in plan.raises for kind in kinds[1:at + 1]) for at in range(len(kinds))]


def shown_in(copy):
    """The letter that is shown, or None."""
    return copy.get("own", copy.get("whole"))


def told(plan, weaving):
    """The attributes that play should return, or the index of the first wrong event."""
    kinds, about, copy, came, answers, counted = ["ask"], [True], {}, set(), [], None
    shows, rules, goals = [None], [], set()
    for at, event in enumerate(weaving):
        words = event.split(" ") if isinstance(event, str) else []
        rule = heard = None
        numbers = numbers_of(plan, kinds)
        shown = shown_in(copy)
        if event in LETTERS or event in ("other day", "other off"):
            kinds.append(words[-1])
            about.append(len(words) == 1)
            counted = counted if len(words) == 2 else None
        elif event in [f"come {place}" for place in range(len(kinds)) if about[place]]:
            place = int(words[1])
            rule, copy = letter_comes(plan, kinds[place], (numbers[place], place), copy)
            came.add(place)
        elif event == "answer" and shown is not None and kinds[shown[1]] in ("ask", "day"):
            answers.append(shown[1])
        elif event in [f"heard {answer}" for answer in range(len(answers))]:
            heard = answers[int(words[1])]
            rule, counted = answer_comes(plan, numbers[heard] == numbers[-1], counted, int(words[1]))
        else:
            return at
        rules.append(rule)
        shows.append(None if shown_in(copy) is None else shown_in(copy)[1])
        newest = max(place for place in range(len(kinds)) if about[place])
        goals |= goals_now(kinds, shows, newest, came, None if counted is None else answers[counted], heard)
    numbers = numbers_of(plan, kinds)
    return {
        "letters": tuple((kind if own else "other", number) for kind, own, number in zip(kinds, about, numbers)),
        "shows": tuple(shows),
        "whole": copy["whole"][1] if "whole" in copy else None,
        "own": copy["own"][1] if "own" in copy else None,
        "answers": tuple(answers),
        "counted": counted,
        "rules": tuple(rules),
        "goals": tuple(sorted(goals)),
    }


def goals_now(kinds, shows, newest, came, counted_for, heard):
    """The goals that are come to behind an event."""
    now = shows[-1]
    goals = set()
    if newest in came and now != newest:
        goals.add("elder")
    if kinds[newest] == "day" and newest in shows and now != newest:
        goals.add("lost")
    if now is not None and kinds[now] in ("ask", "day"):
        if any(place is not None and place > now and kinds[place] in ("stop", "off") for place in shows):
            goals.add("back")
    if counted_for is not None and counted_for != newest:
        goals.add("wrong")
    if heard == newest and counted_for is None:
        goals.add("deaf")
    return goals


def length(weaving):
    """How many events of a weaving are no deeds."""
    return len([event for event in weaving if event.split(" ")[0] in EVENTS])


class Nearest:
    """All weavings with at most so many letters about the day: for each goal the fewest events that are no deeds, the
    rules that are done, the kinds that are shown."""

    def __init__(self, plan, many):
        self.plan = plan
        self.goals = {}
        self.rules = set()
        self.kinds = set()
        for more in range(many):
            for tail in product(LETTERS, repeat=more):
                self.go_through(("ask",) + tail)

    def note(self, goal, events):
        self.goals[goal] = min(events, self.goals.get(goal, events))

    def go_through(self, kinds):
        """All comings of these letters, which are sent ahead of them: later ones are nowhere needed sooner."""
        letters = list(zip(numbers_of(self.plan, kinds), range(len(kinds))))
        start = ({}, False, False, -1)
        seen, layer, events = {repr(start)}, [start], 0
        while layer:
            further = []
            for copy, came, shown, off in layer:
                self.look(kinds, letters, (copy, came, shown, off), events)
                for letter in letters:
                    at, behind = letter_comes(self.plan, kinds[letter[1]], letter, copy)
                    self.rules.add(at)
                    now = shown_in(behind)
                    last = now[1] if now is not None and kinds[now[1]] in ("stop", "off") else -1
                    state = (
                        dict(sorted(behind.items())), came or letter == letters[-1], shown or now == letters[-1],
                        max(off, last),
                    )
                    if repr(state) not in seen:
                        seen.add(repr(state))
                        further.append(state)
            layer, events = further, events + 1

    def look(self, kinds, letters, state, events):
        copy, came, shown, off = state
        now = shown_in(copy)
        if came and now != letters[-1]:
            self.note("elder", events)
        if shown and now != letters[-1] and kinds[-1] == "day":
            self.note("lost", events)
        if now is None:
            return
        self.kinds.add(kinds[now[1]])
        if kinds[now[1]] in ("ask", "day"):
            if now[1] < off:
                self.note("back", events)
            for over in {False, "day" in self.plan.raises or "off" in self.plan.raises}:
                self.answer(now, letters[-1], over, events)

    def answer(self, now, newest, over, events):
        at, counted = answer_comes(self.plan, now[0] == newest[0] and not over, None, 0)
        self.rules.add(at)
        if counted is not None and now != newest:
            self.note("wrong", events + 2)
        if counted is None and now == newest:
            self.note("deaf", events + 2)
