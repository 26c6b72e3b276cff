"""Weavings: rows of events, and what comes of them."""

from overtaken.acting import answer_rule, deeds_of, effect, is_whole_kind, letter_rule, relation
from overtaken.checks import is_sequence, read_place
from overtaken.errors import InvalidWeaving

DEEDS = ("ask", "day", "stop", "off", "other day", "other off")
OTHER = "other"
COME = "come "
ANSWERING = "answer"
HEARD = "heard "


class Course:
    """How far a weaving has gone; it changes with each event."""

    def __init__(self, plan):
        self.plan = plan
        self.letters = [("ask", 0)]
        self.newest = 0
        self.whole = None
        self.own = None
        self.came = {}
        self.shown = {}
        self.called_off = None
        self.answers = []
        self.counted = None
        self.shows = [None]
        self.rules = []
        self.goals = {}

    def showing(self):
        """The place of the letter that the copy shows, or None."""
        return self.whole if self.own is None else self.own

    def send(self, deed):
        """Send the letter of this deed."""
        kind = deed.removeprefix("other ")
        number = self.letters[-1][1] + (1 if kind in self.plan.raises else 0)
        if deed == kind:
            self.newest = len(self.letters)
            self.counted = None
        self.letters.append((kind if deed == kind else OTHER, number))

    def standing_to(self, place, part):
        """How the letter at this place stands to the part at that one."""
        other = None if part is None else (self.letters[part][1], part)
        return relation((self.letters[place][1], place), other)

    def come(self, place):
        """Let a letter come to the guest; the rule that is done is returned."""
        kind = self.letters[place][0]
        to_whole, to_own = self.standing_to(place, self.whole), self.standing_to(place, self.own)
        rule = letter_rule(self.plan, kind, to_whole, to_own)
        takes, wipes = effect(kind, deeds_of(self.plan, rule))
        if wipes:
            self.own = None
        if takes and is_whole_kind(kind):
            self.whole = place
        elif takes:
            self.own = place
        self.came[place] = True
        return rule

    def hear(self, answer):
        """Let an answer come to the caller; the rule that is done is returned."""
        level = self.letters[self.answers[answer]][1] == self.letters[-1][1]
        rule = answer_rule(self.plan, level)
        deeds = deeds_of(self.plan, rule)
        if deeds:
            self.counted = answer if deeds[-1] == "count" else None
        return rule

    def look(self):
        """Take in what the copy shows behind an event."""
        place = self.showing()
        self.shows.append(place)
        if place is None:
            return
        self.shown[place] = True
        if self.letters[place][0] in ("stop", "off") and (self.called_off is None or place > self.called_off):
            self.called_off = place

    def judge(self, heard):
        """Take in the goals that are come to; heard is the letter that was answered, if an answer came just now."""
        place, newest = self.shows[-1], self.newest
        if newest in self.came and place != newest:
            self.goals["elder"] = True
        if self.letters[newest][0] == "day" and newest in self.shown and place != newest:
            self.goals["lost"] = True
        if self.is_back(place):
            self.goals["back"] = True
        if self.counted is not None and self.answers[self.counted] != newest:
            self.goals["wrong"] = True
        if heard == newest and self.counted is None:
            self.goals["deaf"] = True

    def is_back(self, place):
        """Whether the letter at this place was sent ahead of one that has called it off."""
        if place is None or self.called_off is None:
            return False
        return self.letters[place][0] in ("ask", "day") and place < self.called_off


def letter_to_come(course, event):
    """The place of the letter that comes with this event, or None."""
    place = read_place(event, COME, len(course.letters))
    return None if place is None or course.letters[place][0] == OTHER else place


def can_answer(course):
    """Whether the copy shows a letter that asks for an answer."""
    place = course.showing()
    return place is not None and course.letters[place][0] in ("ask", "day")


def go_on(course, event, at):
    """Let the event with this index happen."""
    rule = heard = None
    place = letter_to_come(course, event)
    answer = read_place(event, HEARD, len(course.answers))
    if event in DEEDS:
        course.send(event)
    elif place is not None:
        rule = course.come(place)
    elif answer is not None:
        rule = course.hear(answer)
        heard = course.answers[answer]
    elif event == ANSWERING and can_answer(course):
        course.answers.append(course.showing())
    else:
        raise InvalidWeaving(at)
    course.rules.append(rule)
    course.look()
    course.judge(heard)


class Played:
    """What comes of a weaving."""

    def __init__(self, course):
        self.letters = tuple(course.letters)
        self.shows = tuple(course.shows)
        self.whole = course.whole
        self.own = course.own
        self.answers = tuple(course.answers)
        self.counted = course.counted
        self.rules = tuple(course.rules)
        self.goals = tuple(sorted(course.goals))


def play(plan, weaving):
    """What comes of this weaving."""
    if not is_sequence(weaving):
        raise InvalidWeaving(0)
    course = Course(plan)
    for at, event in enumerate(weaving):
        go_on(course, event, at)
    return Played(course)
