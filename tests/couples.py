"""Two plans side by side, told by other means than the program's: how soon they do not show the same."""

from itertools import product
from random import Random

from overtaken.plans import Plan
from overtaken.rules import Rule
from tests.guest import LETTERS, letter_comes, numbers_of, shown_in
from tests.made import LETTER_TESTS, answer_rule, likely_rule, made_up, nearly_careful


def comings_apart(p, q, kinds):
    """With how many comings of these letters, at the fewest, the plans do not show the same; None if with none."""
    letters = list(zip(numbers_of(p, kinds), range(len(kinds))))
    seen, layer, comings = {repr(({}, {}))}, [({}, {})], 0
    while layer:
        further = []
        for first, second in layer:
            if shown_in(first) != shown_in(second):
                return comings
            for letter in letters:
                kind = kinds[letter[1]]
                state = tuple(
                    dict(sorted(letter_comes(plan, kind, letter, copy)[1].items()))
                    for plan, copy in ((p, first), (q, second))
                )
                if repr(state) not in seen:
                    seen.add(repr(state))
                    further.append(state)
        layer, comings = further, comings + 1
    return None


def fewest_apart(p, q, many):
    """The same over all rows of at most so many letters."""
    found = [
        comings_apart(p, q, ("ask",) + tail) for more in range(many) for tail in product(LETTERS, repeat=more)
    ]
    return min((comings for comings in found if comings is not None), default=None)


def otherwise(random, rules):
    """The rules with one of them otherwise, away, at another place, or with a further one."""
    rules = list(rules)
    at = random.randrange(len(rules))
    rule = rules[at]
    turn = random.randrange(7)
    if turn == 0:
        del rules[at]
    elif turn == 1:
        rules[at:at + 2] = rules[at:at + 2][::-1]
    elif turn == 2:
        rules.insert(at, random.choice([likely_rule, answer_rule])(random))
    elif turn == 3:
        rules.append(random.choice([likely_rule, answer_rule])(random))
    elif turn == 4 or rule.kind == "answer":
        rules[at] = Rule(rule.kind, rule.tests[1:], rule.deeds)
    elif turn == 5:
        rules[at] = Rule(rule.kind, rule.tests[:3] + (random.choice(LETTER_TESTS),), rule.deeds)
    else:
        rules[at] = Rule(rule.kind, rule.tests, random.choice([["take"], ["take", "wipe"], ["wipe"]]))
    return rules


def nearly_alike(seed, many):
    """So many pairs of plans of at most 8 rules, or of a few more, that differ in one or two rules."""
    random = Random(seed)
    pairs = []
    for plan in made_up(seed + 1, many * 2 // 3, 7) + nearly_careful(seed + 2, many - many * 2 // 3):
        rules = plan.rules or (Rule("ask"),)
        for _ in range(random.choice([1, 1, 2])):
            rules = otherwise(random, rules) or [Rule("day", [], ["take"])]
        pairs.append((plan, Plan(plan.raises, rules)))
    return pairs
