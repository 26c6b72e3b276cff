"""A post told by other means than the program's: each copy is changed as letters come, and all is kept to go back."""

from copy import deepcopy

from tests.guest import LETTERS, answer_comes, letter_comes, numbers_of, shown_in, told

GUESTS = ("ann", "b", "cyd", "zoey")


class Office:
    """What a post should tell."""

    def __init__(self, plan, days=1):
        self.plan = plan
        self.days = days
        self.past = []
        pairs = [(guest, day) for guest in GUESTS for day in range(days)]
        self.now = {
            "letters": [("ask", None)],
            "copies": {pair: {} for pair in pairs},
            "weavings": {pair: [] for pair in pairs},
            "counted": {pair: None for pair in pairs},
            "answers": [],
        }

    def numbers(self):
        return numbers_of(self.plan, [kind for kind, _ in self.now["letters"]])

    def sent(self):
        return tuple((*letter, number) for letter, number in zip(self.now["letters"], self.numbers()))

    def shown(self, guest, day):
        now = shown_in(self.now["copies"][guest, day])
        return None if now is None else now[1]

    def word_for(self, name, args):
        """The word with which this deed should be refused, or None."""
        good = {
            "guest": lambda value: type(value) is str and value in GUESTS,
            "other": lambda value: type(value) is str and value in GUESTS,
            "day": lambda value: type(value) is int and value in range(self.days),
            "place": lambda value: type(value) is int and value in range(len(self.now["letters"])),
            "number": lambda value: type(value) is int and value in range(len(self.now["answers"])),
        }
        words = {"come": ("guest", "place"), "hand": ("guest", "day", "other"), "answer": ("guest", "day"),
                 "heard": ("number",)}
        if name == "send":
            kind, day = args
            if kind not in LETTERS:
                return "kind"
            fits = day is None if kind in ("ask", "stop") else good["day"](day)
            return None if fits else "day"
        for word, value in zip(words[name], args):
            if not good[word](value):
                return word
            if word == "day":
                place = self.shown(*args[:2])
                if place is None or name == "answer" and self.now["letters"][place][0] not in ("ask", "day"):
                    return "day"
        return None

    def do(self, name, args):
        """Do what is not refused; what the post should return is returned."""
        self.past.append(self.now)
        self.now = deepcopy(self.now)
        return getattr(self, name)(*args)

    def undo(self):
        if not self.past:
            return False
        self.now = self.past.pop()
        return True

    def send(self, kind, day):
        self.now["letters"].append((kind, day))
        for (guest, own), weaving in self.now["weavings"].items():
            if day in (None, own):
                self.now["counted"][guest, own] = None
                weaving.append(kind)
            else:
                weaving.append("other " + kind)
        return len(self.now["letters"]) - 1

    def come(self, guest, place):
        kind, about = self.now["letters"][place]
        for day in range(self.days) if about is None else [about]:
            copy = self.now["copies"][guest, day]
            _, behind = letter_comes(self.plan, kind, (self.numbers()[place], place), copy)
            self.now["copies"][guest, day] = behind
            self.now["weavings"][guest, day].append(f"come {place}")

    def hand(self, guest, day, other):
        self.come(other, self.shown(guest, day))

    def answer(self, guest, day):
        self.now["answers"].append((guest, day, self.shown(guest, day)))
        self.now["weavings"][guest, day].append("answer")
        return len(self.now["answers"]) - 1

    def heard(self, number):
        guest, day, place = self.now["answers"][number]
        numbers = self.numbers()
        counted = self.now["counted"][guest, day]
        level = numbers[place] == numbers[-1]
        _, self.now["counted"][guest, day] = answer_comes(self.plan, level, counted, number)
        own = [at for at, row in enumerate(self.now["answers"]) if row[:2] == (guest, day)].index(number)
        self.now["weavings"][guest, day].append(f"heard {own}")

    def everything(self):
        """All that can be asked of a post."""
        rows = {}
        for pair, weaving in self.now["weavings"].items():
            rows[pair] = (self.shown(*pair), self.now["counted"][pair], tuple(weaving), told(self.plan, weaving)["goals"])
        return self.sent(), len(self.past), rows


def everything(post, days):
    """The same, asked of the post."""
    rows = {}
    for guest in GUESTS:
        for day in range(days):
            rows[guest, day] = (
                post.look(guest, day), post.counted_for(guest, day), post.weaving_for(guest, day),
                post.goals_for(guest, day),
            )
    return post.sent, len(post), rows


def any_deed(random, office):
    """A deed and its arguments; most of them are not refused."""
    guest, other = random.choice(GUESTS), random.choice(GUESTS)
    day = random.randrange(office.days)
    name = random.choice(["send", "send", "come", "come", "come", "come", "hand", "hand", "answer", "answer", "heard"])
    if name == "send":
        kind = random.choice(LETTERS)
        return name, (kind, random.choice([None] * 9 + [day]) if kind in ("ask", "stop") else day)
    if name == "come":
        return name, (guest, random.randrange(len(office.now["letters"]) + random.choice([0, 0, 0, 1])))
    if name == "hand":
        return name, (guest, day, other)
    if name == "answer":
        return name, (guest, day)
    return name, (random.randrange(len(office.now["answers"]) + random.choice([0, 0, 1]) or 1),)
