"""Promises [15] and [16], and [1] to [3] where they are about deciding."""

import unittest

from overtaken.deciding import comes, goals, happens, shown, weaving
from overtaken.errors import InvalidGoal, NoRule
from overtaken.plans import Plan
from overtaken.weavings import play
from tests import book
from tests.guest import Nearest, length, told
from tests.made import GOALS, LETTERS, LOOSE, TAKING, WISE, careful, made_up, nearly_careful
from tests.values import any_values, refusal

COUNTING = Plan(careful().raises, careful().rules[:12]) + Plan.read("raise\non answer do count")
LISTENING = careful().raising(["ask", "stop"])

# For each goal a plan with which it happens, and one with which it does not.
HAPPENS = {"elder": WISE, "lost": LOOSE, "back": LOOSE, "wrong": COUNTING, "deaf": careful()}
NEVER = {"elder": careful(), "lost": careful(), "back": careful(), "wrong": careful(), "deaf": COUNTING}


def named():
    return [Plan(), WISE, LOOSE, TAKING, careful(), COUNTING, LISTENING]


class EachGoal(unittest.TestCase):
    def test_happens(self):
        for goal in GOALS:
            self.assertIs(happens(HAPPENS[goal], goal), True, goal)
            self.assertIs(happens(NEVER[goal], goal), False, goal)

    def test_weaving(self):
        for goal in GOALS:
            self.assertIsInstance(weaving(HAPPENS[goal], goal), tuple)
            self.assertIn(goal, play(HAPPENS[goal], weaving(HAPPENS[goal], goal)).goals)
            self.assertIsNone(weaving(NEVER[goal], goal))

    def test_goals(self):
        self.assertEqual(goals(WISE), ("deaf", "elder"))
        self.assertEqual(goals(LOOSE), ("back", "deaf", "elder", "lost"))
        self.assertEqual(goals(TAKING), ("back", "elder", "lost", "wrong"))
        self.assertEqual(goals(careful()), ("deaf",))
        self.assertEqual(goals(COUNTING), ("wrong",))
        self.assertEqual(goals(Plan()), ("elder",))

    def test_example(self):
        text = ("raise ask day off stop\non ask if not whole do take\non ask if above whole do take\n"
                "on stop if not whole do take\non stop if above whole do take")
        wise = Plan.read(text)
        self.assertEqual((goals(wise), happens(wise, "back")), (("deaf", "elder"), False))

    def test_number_of_events(self):
        told_of = [
            (WISE, "elder", 1), (WISE, "deaf", 3), (LOOSE, "back", 2), (LOOSE, "lost", 2), (TAKING, "wrong", 3),
            (careful(), "deaf", 3), (COUNTING, "wrong", 3), (Plan(), "elder", 1),
            # The letter that is lost has to be shown, then lost by one that comes behind it.
            (Plan.read("raise\non ask do wipe\non day if whole do take\non stop do take"), "lost", 3),
            # The same letter has to come twice.
            (Plan.read("raise\non day if not own do take\non day if level own and not later own do wipe"), "lost", 2),
            # An own part has to be there ahead of the ask that is answered.
            (Plan.read("raise\non ask if own do take then wipe\non off do take"), "deaf", 4),
        ]
        for plan, goal, many in told_of:
            self.assertEqual(length(weaving(plan, goal)), many, (str(plan), goal))
            self.assertIn(goal, play(plan, weaving(plan, goal)).goals, (str(plan), goal))

    def test_answer_is_level_though_others_raise(self):
        for kind in ("day", "off"):
            plan = Plan([kind], TAKING.rules[:4]) + Plan.read("raise\non answer if not level do drop\non answer do count")
            self.assertEqual(weaving(plan, "deaf")[-3:], ("answer", f"other {kind}", "heard 0"))
            self.assertFalse(happens(plan.raising(["ask", "stop"]), "deaf"))


class Nearness(unittest.TestCase):
    """No short weaving does better than what is told, and none does what is said never to happen."""

    def check(self, plan, many):
        near = Nearest(plan, many)
        for goal in GOALS:
            found = weaving(plan, goal)
            self.assertEqual(happens(plan, goal), found is not None)
            self.assertEqual(goal in goals(plan), found is not None)
            if found is None:
                self.assertNotIn(goal, near.goals, (str(plan), goal))
                continue
            self.assertIsInstance(found, tuple)
            self.assertIn(goal, play(plan, found).goals, (str(plan), goal, found))
            self.assertIn(goal, told(plan, found)["goals"])
            self.assertLessEqual(length(found), near.goals.get(goal, 100), (str(plan), goal, found))
        self.assertEqual(goals(plan), tuple(sorted(goals(plan))))
        done = {at for at in range(len(plan)) if comes(plan, at)}
        self.assertLessEqual(near.rules - {None}, done, str(plan))
        self.assertLessEqual(near.kinds, set(shown(plan)), str(plan))

    def test_named_plans(self):
        for plan in named():
            self.check(plan, 5)

    def test_made_up_plans(self):
        for plan in made_up(1, 120, 6):
            self.check(plan, 4)

    def test_nearly_careful_plans(self):
        for plan in nearly_careful(2, 20):
            self.check(plan, 4)


class Rules(unittest.TestCase):
    def test_comes(self):
        plan = Plan.read(
            "raise ask\non ask if own and above own and not whole do take\non ask if not own and own\n"
            "on day if level whole and above whole\non day do take\non stop if level own do take\n"
            "on off if whole and later whole\non answer if not level\non answer if level and not level\non answer"
        )
        self.assertEqual([comes(plan, at) for at in range(len(plan))],
                         [True, False, False, True, True, True, True, False, True])

    def test_rules_that_never_come(self):
        for text, expected in (
            ("raise\non ask\non ask", (True, False)),
            ("raise\non ask if above whole\non stop do take", (False, True)),
            ("raise stop\non ask if above whole\non stop do take", (True, True)),
            ("raise stop\non stop if level whole and later whole\non ask do take", (False, True)),
            ("raise stop\non stop if level whole\non ask do take", (True, True)),
            ("raise ask\non ask if above whole\non stop do take", (True, True)),
            ("raise\non ask if level whole and not later whole\non ask do take", (True, True)),
            ("raise stop\non ask if level whole and not later whole\non stop do take", (False, True)),
            ("raise\non ask if level whole and not later whole\non stop do take", (True, True)),
            ("raise\non answer", (False,)),
            ("raise\non answer\non off do take\non stop do take", (False, True, True)),
            ("raise\non answer if not level\non ask do take", (False, True)),
            ("raise off\non answer if not level\non ask do take", (True, True)),
            ("raise stop\non answer if not level\non ask do take", (True, True)),
            ("raise day\non day if own and not later own and not level own do take\non day do take", (True, True)),
            ("raise day\non day if level own and later own\non day do take", (False, True)),
            ("raise\non day if own and not own\non day do take", (False, True)),
        ):
            plan = Plan.read(text)
            self.assertEqual(tuple(comes(plan, at) for at in range(len(plan))), expected, text)

    def test_answers_that_are_never_level(self):
        # An ask is taken only if a stop with a greater number is there, so that no answer to it is level.
        plan = Plan.read("raise stop\non ask if whole and not level whole and not later whole do take\n"
                         "on stop do take\non answer if level\non answer")
        self.assertEqual([comes(plan, at) for at in range(4)], [True, True, False, True])

    def test_other_integers(self):
        for plan in (Plan(), WISE, careful()):
            for at in (-1, -len(plan), len(plan), len(plan) + 1, 10 ** 30, -10 ** 30):
                if not 0 <= at < len(plan):
                    self.assertEqual(refusal(comes, plan, at), (NoRule, {"at": at}))

    def test_shown(self):
        self.assertEqual(shown(Plan()), ())
        self.assertEqual(shown(WISE), ("ask", "stop"))
        self.assertEqual(shown(LOOSE), ("ask", "day", "off"))
        self.assertEqual(shown(TAKING), LETTERS)
        self.assertEqual(shown(Plan.read("raise\non day do take then wipe\non off do take")), ("off",))
        self.assertEqual(shown(Plan.read("raise\non stop if own do take\non day do take")), ("day",))
        # Here an answer is wrong long before an ask is shown.
        self.assertEqual(shown(Plan.read(
            "raise\non day if not own do take\non stop if own do take\non off if whole do wipe\n"
            "on ask if whole and not own do take\non answer do count"
        )), ("ask", "day", "stop"))
        self.assertEqual(shown(Plan.read("raise\non stop if own do take then wipe\non day do take")), ("day", "stop"))
        self.assertEqual(shown(Plan.read("raise\non ask if above own do take then wipe\non off do take")), ("off",))

    def test_just_as_the_standings_tell(self):
        for plan in made_up(3, 12, 8) + nearly_careful(4, 4):
            rules, kinds = book.rules_and_kinds(plan)
            self.assertEqual({at for at in range(len(plan)) if comes(plan, at)}, rules, str(plan))
            self.assertEqual(shown(plan), tuple(sorted(kinds)), str(plan))


class Arguments(unittest.TestCase):
    def test_any_values_as_goals(self):
        for value in any_values() + ["Elder", "elder ", "elde", "backlost", "goals", ["elder"], ("lost",)]:
            for call in (happens, weaving):
                for plan in (WISE, None):
                    self.assertEqual(refusal(call, plan, value), (InvalidGoal, {}), value)

    def test_by_name(self):
        self.assertTrue(happens(plan=LOOSE, goal="back"))
        self.assertEqual(weaving(plan=LOOSE, goal="back"), weaving(LOOSE, "back"))
        self.assertEqual(goals(plan=LOOSE), goals(LOOSE))
        self.assertTrue(comes(plan=LOOSE, at=2))
        self.assertEqual(shown(plan=LOOSE), shown(LOOSE))

    def test_same_call_same_result(self):
        before = [(goals(plan), [weaving(plan, goal) for goal in GOALS], shown(plan), str(plan)) for plan in named()]
        again = [(goals(plan), [weaving(plan, goal) for goal in GOALS], shown(plan), str(plan)) for plan in named()]
        self.assertEqual(before, again)

    def test_fourteen_rules(self):
        plans = [plan for plan in made_up(6, 120, 14) if len(plan) == 14]
        self.assertGreater(len(plans), 3)
        for plan in plans[:3] + [careful()]:
            self.assertEqual(list(goals(plan)), [goal for goal in GOALS if book.reached(plan, goal) is None])
            rules, kinds = book.rules_and_kinds(plan)
            self.assertEqual({at for at in range(14) if comes(plan, at)}, rules)
            self.assertEqual(set(shown(plan)), kinds)


if __name__ == "__main__":
    unittest.main()
