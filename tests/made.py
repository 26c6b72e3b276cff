"""Plans for the tests: some with names, and some that are made up, the same ones in each run."""

from random import Random

from overtaken.plans import Plan
from overtaken.rules import Rule

LETTERS = ("ask", "day", "off", "stop")
GOALS = ("back", "deaf", "elder", "lost", "wrong")
LETTER_TESTS = [
    start + word for start in ("", "not ")
    for word in ("whole", "own", "above whole", "above own", "level whole", "level own", "later whole", "later own")
]

WISE = Plan.read(
    "raise ask day off stop\non ask if not whole do take\non ask if above whole do take\n"
    "on stop if not whole do take\non stop if above whole do take"
)
LOOSE = Plan.read("raise ask\non ask do take\non day do take\non off do take")
TAKING = Plan.read("raise\non ask do take\non day do take\non off do take\non stop do take\non answer do count")


def careful():
    """A plan of 14 rules: a letter is taken if its number is above those of both parts."""
    rules = []
    for kind in LETTERS:
        rules.append(Rule(kind, ["whole", "not above whole"]))
        rules.append(Rule(kind, ["own", "not above own"]))
        rules.append(Rule(kind, [], ["take", "wipe"] if kind in ("ask", "stop") else ["take"]))
    rules.append(Rule("answer", ["level"], ["count"]))
    rules.append(Rule("answer", ["not level"], ["drop"]))
    return Plan(LETTERS, rules)


def answer_rule(random):
    tests = random.choice([[], ["level"], ["not level"], ["level", "level"], ["level", "not level"]])
    return Rule("answer", tests, random.choice([["count"], ["count"], ["drop"], [], ["drop", "count"]]))


def any_rule(random):
    """A rule with any tests and deeds."""
    kind = random.choice(LETTERS + ("answer",))
    if kind == "answer":
        return answer_rule(random)
    tests = [random.choice(LETTER_TESTS) for _ in range(random.choice([0, 1, 1, 2, 3, 4]))]
    return Rule(kind, tests, [random.choice(["take", "take", "wipe"]) for _ in range(random.choice([0, 1, 1, 2, 4]))])


def likely_rule(random):
    """A rule of the sort that is written for a guest."""
    kind = random.choice(LETTERS)
    part, other = ("whole", "own") if kind in ("ask", "stop") else ("own", "whole")
    tests = random.choice([[], [f"not {part}"], [f"above {part}"], [f"level {part}", f"later {part}"]])
    more = random.choice([[], [], [f"not {other}"], [f"above {other}"], [f"not above {other}"], [f"later {other}"]])
    return Rule(kind, tests + more, random.choice([["take"], ["take"], ["take", "wipe"], ["wipe", "take"], []]))


def made_up(seed, many, most=8):
    """So many plans, each of at most so many rules."""
    random = Random(seed)
    plans = []
    for _ in range(many):
        raises = [kind for kind in LETTERS if random.random() < random.choice([0.2, 0.5, 0.8])]
        make = random.choice([any_rule, likely_rule, likely_rule])
        rules = [make(random) for _ in range(random.randint(0, most))]
        if random.random() < 0.7:
            rules = rules[:most - 1] + [answer_rule(random)]
        plans.append(Plan(raises, rules))
    return plans


def nearly_careful(seed, many):
    """The careful plan with some rules away, or otherwise, or with other kinds that raise."""
    random = Random(seed)
    plans = []
    for _ in range(many):
        plan = careful().raising([kind for kind in LETTERS if random.random() < 0.8])
        for _ in range(random.choice([0, 1, 1, 2])):
            at = random.randrange(len(plan))
            rule = random.choice([likely_rule, answer_rule])(random)
            rules = list(plan.rules)
            rules[at:at + 1] = random.choice([[], [rule], [rules[at], rule]])
            plan = Plan(plan.raises, rules[:14])
        plans.append(plan)
    return plans


def made_up_weaving(random, many):
    """So many events; most of them can happen."""
    row, letters, answers = [], 1, 0
    for _ in range(many):
        chance = random.random()
        if chance < 0.3:
            row.append(random.choice(LETTERS + ("other day", "other off")))
            letters += 1
        elif chance < 0.75:
            row.append(f"come {random.randrange(letters)}")
        elif chance < 0.87 or answers == 0:
            row.append("answer")
            answers += 1
        else:
            row.append(f"heard {random.randrange(answers)}")
    return row
