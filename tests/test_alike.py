"""Promise [22], and [1] to [3] where they are about plans that are alike."""

import unittest
from itertools import combinations
from random import Random

from overtaken.alike import alike, parting
from overtaken.errors import Mismatch
from overtaken.plans import Plan
from overtaken.rules import Rule
from overtaken.weavings import play
from tests.couples import fewest_apart, nearly_alike
from tests.guest import length, told
from tests.made import LETTERS, LOOSE, TAKING, WISE, careful, made_up
from tests.values import refusal

SETS = [kinds for many in range(5) for kinds in combinations(LETTERS, many)]
OWN = "on day do take\non off do take\n"
WIPED = "on day do take\non off do wipe\n"

# The kinds that raise, and rules that show the same.
ALIKE = [
    ("", "", "on answer do count"),
    ("ask", "on ask do take", "on ask do take\non ask do wipe"),
    ("ask", "on ask do take", "on answer if level do count\non ask do take\non answer do drop"),
    ("ask", "on ask do take", "on ask if whole do take\non ask if not whole do take"),
    ("day", "on ask if not whole do take\non ask if above whole do take",
     "on ask if above whole do take\non ask if not whole do take"),
    ("stop", "on ask do take then wipe\non day do take", "on day do take\non ask do wipe then take"),
    ("", "on day do take then wipe\non off do take", "on day do wipe\non off do take"),
    ("", "on day do take then wipe", ""),
    ("off", "on day if own and not own do take", "on off if above own do take"),
    ("day", OWN + "on ask if own and above own do wipe", OWN + "on ask if above own do wipe then wipe"),
    # Without kinds that raise no number is above another one.
    ("", "on ask if above whole do take\non stop do take", "on stop do take"),
    ("", "on stop if later whole do take\non stop if not whole do take",
     "on stop if later whole and level whole do take\non stop if not whole do take"),
    # If all kinds raise, only the letter itself is level with a letter.
    ("ask day off stop", "on ask if later whole do take\non day do take\non stop do take",
     "on ask if above whole do take\non day do take\non stop do take"),
    ("ask day off stop", "on ask do take\non stop if level whole do wipe", "on ask do take"),
    ("ask", "on ask if not whole do take\non ask if later whole do take",
     "on ask if above whole do take\non ask if not whole do take"),
    # A stop that raises is the first one of those with its number.
    ("stop", "on stop do take\non ask if level whole and not later whole do take", "on stop do take"),
    ("ask stop", "on ask do take\non stop if level whole do take", "on ask do take"),
    # The whole parts may differ where nobody sees them.
    ("ask", OWN + "on ask do take", OWN + "on ask if not own do take"),
    ("", OWN + "on ask do take\non stop if own do take", OWN + "on ask if not own do take"),
]

# The same, with the fewest comings behind which they do not show the same.
APART = [
    (1, "", "on ask do take", ""),
    (1, "ask", "", "on off do take"),
    (1, "day", "on stop if not whole do take", "on stop if whole do take"),
    (2, "", "on ask do take", "on ask if not whole do take"),
    (2, "", "on ask do take\non stop do take", "on ask do take\non stop if not later whole do take"),
    (2, "", "on day do take\non ask do wipe", "on day do take"),
    (2, "", "on day if not own do take\non day if later own do take", "on day if not own do take"),
    # The first ask of all does not raise the number, so that a stop may be level with it.
    (2, "ask", "on ask do take\non stop if level whole do take", "on ask do take"),
    (2, "stop", "on stop do take\non ask if above whole do take", "on stop do take"),
    # The parts differ long before anybody sees it.
    (3, "", WIPED + "on ask do take", WIPED + "on ask if not own do take"),
    (3, "", WIPED + "on stop if own do take", WIPED),
    (4, "", WIPED + "on stop if own do take\non ask if own and later whole do take",
     WIPED + "on stop if own do take"),
    (4, "ask", WIPED + "on stop if own do take\non ask if own and above whole do take",
     WIPED + "on stop if own do take"),
]


def plan_of(raises, rules):
    return Plan(raises.split(), [Rule.read(line) for line in rules.strip().split("\n") if line])


def unanswered(random, many):
    """So many events without answers."""
    row, places = [], [0]
    for _ in range(many):
        if random.random() < 0.4:
            deed = random.choice(LETTERS + ("other day", "other off"))
            row.append(deed)
            if deed in LETTERS:
                places.append(len([event for event in row if not event.startswith("come")]))
        else:
            row.append(f"come {random.choice(places)}")
    return row


def pairs_of(rows):
    return [(plan_of(raises, first), plan_of(raises, second)) for *_, raises, first, second in rows]


class Alike(unittest.TestCase):
    def test_alike(self):
        for p, q in pairs_of(ALIKE):
            for first, second in ((p, q), (q, p), (p, p)):
                self.assertIs(alike(first, second), True, (str(p), str(q)))
                self.assertIsNone(parting(first, second))
            self.assertIsNone(fewest_apart(p, q, 4))

    def test_apart(self):
        for (comings, *_), (p, q) in zip(APART, pairs_of(APART)):
            for first, second in ((p, q), (q, p)):
                self.assertIs(alike(first, second), False, (str(p), str(q)))
                self.assertEqual(length(parting(first, second)), comings, (str(p), str(q)))
            self.assertEqual(fewest_apart(p, q, 5), comings, (str(p), str(q)))

    def test_rules_for_answers_part_nothing(self):
        answers = Plan.read("raise\non answer if level do count\non answer do drop\non answer if not level")
        for plan in [Plan(), WISE, LOOSE, TAKING] + made_up(21, 20, 5):
            for other in (plan + answers, answers + plan, Plan(plan.raises) + answers + Plan((), plan.rules)):
                self.assertTrue(alike(plan, other))
                self.assertIsNone(parting(other, plan))

    def test_a_plan_is_alike_to_itself(self):
        for plan in [Plan(), WISE, LOOSE, TAKING, careful()] + made_up(22, 20):
            self.assertTrue(alike(plan, Plan.read(str(plan))))
            self.assertTrue(alike(plan, plan))


class Parting(unittest.TestCase):
    def check(self, p, q, many):
        """Look whether what is told of these plans is so; how many comings it takes is returned."""
        found = parting(p, q)
        self.assertIs(alike(p, q), found is None)
        near = fewest_apart(p, q, many)
        if found is None:
            self.assertIsNone(near, (str(p), str(q)))
            return None
        self.assertIsInstance(found, tuple)
        self.assertFalse([event for event in found if event == "answer" or event.startswith("heard")])
        first, second = play(p, found).shows, play(q, found).shows
        self.assertNotEqual(first[-1], second[-1], (str(p), str(q), found))
        self.assertEqual((first, second), (told(p, found)["shows"], told(q, found)["shows"]))
        # A shorter weaving would do if they differed sooner.
        self.assertEqual(first[:-1], second[:-1], (str(p), str(q), found))
        self.assertTrue(near is None or length(found) <= near, (str(p), str(q), found))
        return length(found)

    def test_given_pairs(self):
        for p, q in pairs_of(ALIKE + APART):
            self.check(p, q, 4)

    def test_plans_that_differ_little(self):
        seen = [self.check(p, q, 4) for p, q in nearly_alike(23, 240)]
        for comings in (None, 1, 2, 3):
            self.assertIn(comings, seen)

    def test_any_plans(self):
        plans = made_up(24, 60)
        for p, q in zip(plans, plans[1:]):
            self.check(p, q.raising(p.raises), 3)

    def test_plans_that_are_alike_show_the_same(self):
        random = Random(25)
        for p, q in pairs_of(ALIKE):
            for _ in range(40):
                row = unanswered(random, 30)
                self.assertEqual(play(p, row).shows, play(q, row).shows, (str(p), str(q), row))

    def test_eight_rules(self):
        rules = OWN + ("on ask if not own do take\non stop if not own do take\non ask if later whole do take\n"
                       "on stop if level whole do take\non stop if own and above own do take\non answer do count")
        for kinds in SETS:
            p = plan_of("", rules).raising(kinds)
            self.assertEqual(len(p), 8)
            self.check(p, plan_of("", OWN + "on ask do take\non stop do take").raising(kinds), 3)
            self.check(p.without(7), p, 3)


class Arguments(unittest.TestCase):
    def test_mismatch(self):
        for first in SETS:
            for second in SETS:
                for rules in ((), WISE.rules):
                    p, q = Plan(first, rules), Plan(second[::-1], LOOSE.rules)
                    expected = None if first == second else (Mismatch, {})
                    self.assertEqual(refusal(alike, p, q), expected)
                    self.assertEqual(refusal(parting, p, q), expected)

    def test_by_name_and_same_result(self):
        stopping = LOOSE + Plan.read("raise\non stop do take")
        self.assertFalse(alike(p=LOOSE, q=stopping))
        self.assertEqual(parting(p=LOOSE, q=stopping), parting(LOOSE, stopping))
        self.assertEqual(length(parting(LOOSE, stopping)), 1)


if __name__ == "__main__":
    unittest.main()
