"""Desks: commands about a plan and a post, and the texts that they return."""

from overtaken.checks import GOALS, read_place
from overtaken.deciding import goals, weaving
from overtaken.errors import InvalidCommand
from overtaken.needs import least_raises
from overtaken.plans import Plan
from overtaken.post import Post

# What may stand behind each command: sorts of words; with `..`, one or more of the sort ahead of it.
FORMS = {
    "plan": ("word ..",),
    "post": ("days",),
    "goals": ("",),
    "weaving": ("goal",),
    "raises": ("goal ..",),
    "send": ("word", "word number"),
    "come": ("word number",),
    "shows": ("word number",),
    "undo": ("",),
}
MORE = " .."
# Numbers have at most four digits.
NUMBERS = 10000


def is_of(word, sort):
    """Whether a word is of this sort."""
    if sort == "goal":
        return word in GOALS
    if sort == "days":
        return word in ("1", "2", "3", "4")
    return sort == "word" or read_place(word, "", NUMBERS) is not None


def has_form(words, form):
    """Whether these words may stand behind a command with this form."""
    if form.endswith(MORE):
        return len(words) > 0 and all([is_of(word, form.removesuffix(MORE)) for word in words])
    sorts = form.split()
    return len(words) == len(sorts) and all([is_of(word, sort) for word, sort in zip(words, sorts)])


def words_of(command):
    """The words of a command of one of the forms."""
    if not isinstance(command, str) or "\n" in command:
        raise InvalidCommand()
    words = command.split(" ")
    if "" in words or not any([has_form(words[1:], form) for form in FORMS.get(words[0], ())]):
        raise InvalidCommand()
    return words


def say_plan(desk, words):
    """Keep another plan."""
    plan = Plan.read(" ".join(words).replace(" ; ", "\n"))
    desk.plan = plan
    desk.post = Post(plan)
    return str(len(plan))


def say_post(desk, words):
    """Take a new post."""
    desk.post = Post(desk.plan, int(words[0]))
    return "done"


def say_goals(desk, _):
    """Tell the goals that happen."""
    return " ".join(goals(desk.plan)) or "none"


def say_weaving(desk, words):
    """Tell a weaving that comes to a goal."""
    events = weaving(desk.plan, words[0])
    return "never" if events is None else ", ".join(events)


def say_raises(desk, words):
    """Tell what least has to raise the number."""
    return " or ".join([" ".join(kinds) or "nothing" for kinds in least_raises(desk.plan, words)]) or "never"


def say_send(desk, words):
    """Send a letter."""
    day = int(words[1]) if len(words) > 1 else None
    return str(desk.post.send(words[0], day))


def say_come(desk, words):
    """Let a letter come to a guest."""
    desk.post.come(words[0], int(words[1]))
    return "done"


def say_shows(desk, words):
    """Tell which letter is shown."""
    place = desk.post.look(words[0], int(words[1]))
    return "nothing" if place is None else str(place)


def say_undo(desk, _):
    """Take back the last deed."""
    return "undone" if desk.post.undo() else "nothing"


ACTIONS = {
    "plan": say_plan,
    "post": say_post,
    "goals": say_goals,
    "weaving": say_weaving,
    "raises": say_raises,
    "send": say_send,
    "come": say_come,
    "shows": say_shows,
    "undo": say_undo,
}


class Desk:
    """A plan and a post, and what is done with them by commands."""

    def __init__(self):
        self.plan = Plan()
        self.post = Post(self.plan)

    def say(self, command):
        """Do a command; its result is returned."""
        name, *words = words_of(command)
        action = ACTIONS[name]
        return action(self, words)
