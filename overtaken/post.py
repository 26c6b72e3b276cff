"""Posts: letters and answers for several guests and days, as they are sent and come."""

from overtaken.acting import is_whole_kind
from overtaken.checks import is_name, is_place
from overtaken.errors import Refused
from overtaken.rules import LETTERS
from overtaken.weavings import ANSWERING, COME, HEARD, play


def check_name(value, word):
    """Raise an error with this word if value is no name."""
    if not is_name(value):
        raise Refused(word)


class Trial:
    """A block behind which a post is as it was when the block was entered."""

    def __init__(self, post):
        self.post = post
        self.kept = ()

    def __enter__(self):
        self.kept = self.post.deeds
        return self.post

    def __exit__(self, kind, value, trace):
        post = self.post
        post.deeds = self.kept


class Post:
    """A live post for several days."""

    def __init__(self, plan, days=1):
        self.plan = plan
        self.days = days
        # Each deed is a guest, a day and an event of their weaving; None stands for all guests, or all days. All else
        # is told from these, so that a deed that is left out is taken back.
        self.deeds = ()

    def do(self, guest, day, event):
        """Let an event happen."""
        self.deeds = (*self.deeds, (guest, day, event))

    @property
    def sent(self):
        """The kind, the day or None, and the number of each letter that was sent."""
        letters = [("ask", None, 0)]
        for guest, day, event in self.deeds:
            if guest is None:
                number = letters[-1][2] + (1 if event in self.plan.raises else 0)
                letters.append((event, day, number))
        return tuple(letters)

    def given(self):
        """The guest and the day of each answer that was given."""
        return [(guest, day) for guest, day, event in self.deeds if event == ANSWERING]

    def send(self, kind, day=None):
        """Send a letter; its place in the row of letters is returned."""
        if kind not in LETTERS:
            raise Refused("kind")
        fits = day is None if is_whole_kind(kind) else is_place(day, self.days)
        if not fits:
            raise Refused("day")
        self.do(None, day, kind)
        return len(self.sent) - 1

    def come(self, guest, place):
        """Let a letter come to a guest."""
        check_name(guest, "guest")
        letters = self.sent
        if not is_place(place, len(letters)):
            raise Refused("place")
        self.do(guest, letters[place][1], f"{COME}{place}")

    def weaving_for(self, guest, day):
        """The weaving of all that has happened for this guest and day."""
        check_name(guest, "guest")
        if not is_place(day, self.days):
            raise Refused("day")
        events = []
        for other, about, event in self.deeds:
            fits = about is None or about == day
            if other is None:
                events.append(event if fits else f"other {event}")
            elif other == guest and fits:
                events.append(event)
        return tuple(events)

    def played(self, guest, day):
        """What comes of this weaving."""
        return play(self.plan, self.weaving_for(guest, day))

    def look(self, guest, day):
        """The place of the letter that the guest's copy of the day shows, or None."""
        return self.played(guest, day).shows[-1]

    def hand(self, guest, day, other):
        """Let the letter that is shown come to another guest, or the same one."""
        place = self.look(guest, day)
        if place is None:
            raise Refused("day")
        check_name(other, "other")
        self.come(other, place)

    def answer(self, guest, day):
        """Give an answer to the letter that is shown; its number is returned."""
        place = self.look(guest, day)
        if place is None or self.sent[place][0] not in ("ask", "day"):
            raise Refused("day")
        self.do(guest, day, ANSWERING)
        return len(self.given()) - 1

    def heard(self, number):
        """Let an answer come to the caller."""
        answers = self.given()
        if not is_place(number, len(answers)):
            raise Refused("number")
        guest, day = answers[number]
        own = answers[:number].count((guest, day))
        self.do(guest, day, f"{HEARD}{own}")

    def counted_for(self, guest, day):
        """The number of the answer that is counted for this guest and day, or None."""
        own = self.played(guest, day).counted
        if own is None:
            return None
        return [number for number, pair in enumerate(self.given()) if pair == (guest, day)][own]

    def goals_for(self, guest, day):
        """The goals to which the weaving for this guest and day comes, ascending."""
        return self.played(guest, day).goals

    def __len__(self):
        return len(self.deeds)

    def undo(self):
        """Take back the last deed; whether there was one is returned."""
        was_there = len(self.deeds) > 0
        self.deeds = self.deeds[:-1]
        return was_there

    def trial(self):
        """A new context manager; when its block is left, the post is as it was when the block was entered."""
        return Trial(self)

    def within(self, work):
        """What work returns for the post, which is as it was when it is done."""
        with self.trial() as post:
            return work(post)
