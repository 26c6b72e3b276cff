"""Promise [21], and [1] to [3] where they are about what plans need."""

import unittest
from itertools import combinations

from overtaken.deciding import goals
from overtaken.errors import InvalidGoal
from overtaken.needs import least_raises, needless_rules, repairs
from overtaken.plans import Plan
from tests import book
from tests.made import GOALS, LETTERS, LOOSE, TAKING, WISE, careful, made_up, nearly_careful
from tests.values import any_values, refusal

SETS = [kinds for many in range(5) for kinds in combinations(LETTERS, many)]
CALLS = (least_raises, needless_rules, repairs)
ALL = ("ask", "day", "off", "stop")

# Rules, what is wanted, and the least sets.
LEAST = [
    ("", "back", ((),)),
    ("", "back lost", ((),)),
    ("", "elder", ()),
    ("on day do take", "back", ((),)),
    ("on ask do take", "elder", ()),
    ("on ask if level whole and later whole do take ; on stop do take", "back", (("ask",),)),
    ("on ask do take ; on answer if level do count", "wrong", (ALL,)),
    ("on day if level whole and not later whole do take ; on ask if not own do take ; on off if level own do take",
     "back", (("ask",), ("off",))),
    ("on ask if not whole do take ; on stop if level whole and not later whole and level own do take then wipe ; "
     "on day do take", "back", (("ask",), ("day", "stop"))),
    ("on off if level whole do take ; on day if level own do take ; on ask do take ; "
     "on off if later own and level whole do take then wipe", "back", (("ask", "day"), ("ask", "off"), ("day", "off"))),
    ("on day if later own do take ; on stop if level own do wipe ; on off if not level own and level whole do take ; "
     "on stop if not whole do take ; on ask if above whole do take then wipe ; "
     "on ask if later whole and above own do wipe", "back", (("day", "off"), ("off", "stop"), ("ask", "day", "stop"))),
    # With each kind that raises one of these happens.
    ("on stop if not own do take ; on day if above whole do take", "back", ((),)),
    ("on day if not level own do take", "lost", ((),)),
    ("on ask if not own do take ; on answer if not level do count", "wrong", ((),)),
    # More kinds that raise make it worse.
    ("on off do take ; on ask if not whole do take ; on ask if level whole and later whole do take then wipe ; "
     "on answer if level and level do count", "back deaf", (("ask",),)),
    ("on day if not level own and level whole do take ; on ask if level whole and not later whole do wipe ; "
     "on ask if later own do wipe ; on stop if not whole do take then wipe ; on answer if level do count",
     "deaf lost", (("day",), ("stop",))),
    # Each of these goals alone can be helped, but not both of them.
    ("on ask do take ; on answer if level do count", "deaf", ((),)),
    ("on ask do take ; on answer if level do count", "deaf wrong", ()),
]

LETTING = "on ask do take ; on day do take ; on off do take"
MIXED = ("on stop do take ; on ask if not whole do take ; on ask do take ; on answer if level ; on answer do count ; "
         "on answer do drop")

# Rules, what is wanted, the rules that are needless, and those that are repairs.
RULES = [
    ("", "back", (), ()),
    ("", "elder", (), ()),
    (LETTING, "back", (0,), (1, 2)),
    (LETTING, "lost", (0, 2), (1,)),
    (LETTING, "back lost", (0,), (1,)),
    (LETTING, "back deaf elder lost wrong", (0,), ()),
    (LETTING, "deaf", (0, 1, 2), ()),
    (LETTING, "wrong", (0, 1, 2), (0, 1, 2)),
    (MIXED, "back", (1, 3, 4, 5), (0, 2)),
    (MIXED, "deaf", (0, 1, 2, 4, 5), (3,)),
    (MIXED, "back deaf", (1, 4, 5), ()),
    # What was prevented by a rule happens without it.
    ("on stop do take ; on ask if whole ; on ask do take", "back", (0, 2), (0, 2)),
    # Each of two rules is needless alone, though not both are.
    ("on stop do take ; on ask if whole ; on ask if whole ; on ask do take", "back", (0, 1, 2, 3), (0, 1, 2, 3)),
    ("on day if own ; on day if own ; on day do take ; on off if own do wipe", "lost", (0, 1), (2, 3)),
]


def plan_of(rules):
    return Plan.read("\n".join(["raise"] + [line for line in rules.split(" ; ") if line]))


def slowly(happening, wanted):
    """The least sets, told by going through all of them and all their parts; happening tells the goals for each."""
    good = [set(kinds) for kinds in SETS if not happening[kinds] & set(wanted)]
    least = [kinds for kinds in good if not any(other < kinds for other in good)]
    return tuple(sorted((tuple(sorted(kinds)) for kinds in least), key=lambda kinds: (len(kinds), kinds)))


class Least(unittest.TestCase):
    def test_given_plans(self):
        for rules, wanted, expected in LEAST:
            self.assertEqual(least_raises(plan_of(rules), wanted.split(" ")), expected, (rules, wanted))

    def test_as_the_standings_tell(self):
        for rules, wanted, expected in LEAST:
            if wanted in ("back", "wrong"):
                happening = {
                    kinds: {wanted} if book.reached(plan_of(rules).raising(kinds), wanted) is None else set()
                    for kinds in SETS
                }
                self.assertEqual(slowly(happening, [wanted]), expected, rules)

    def test_made_up_plans(self):
        for plan in [Plan(), WISE, LOOSE, TAKING] + made_up(31, 10) + nearly_careful(32, 2):
            happening = {kinds: set(goals(plan.raising(kinds))) for kinds in SETS}
            for wanted in [(goal,) for goal in GOALS] + [("back", "lost"), ("wrong", "elder", "back")]:
                self.assertEqual(least_raises(plan, wanted), slowly(happening, wanted), (str(plan), wanted))

    def test_whatever_raises_in_the_plan(self):
        for rules, wanted, expected in LEAST[5:11]:
            for kinds in SETS:
                self.assertEqual(least_raises(plan_of(rules).raising(kinds), wanted.split(" ")), expected)

    def test_nothing_wanted(self):
        for plan in (Plan(), WISE, LOOSE, careful()):
            self.assertEqual(least_raises(plan, []), ((),))
            self.assertEqual(least_raises(plan, ()), ((),))


class EachRule(unittest.TestCase):
    def test_given_plans(self):
        for rules, wanted, needless, repairing in RULES:
            plan = plan_of(rules)
            self.assertEqual(needless_rules(plan, wanted.split(" ")), needless, (rules, wanted))
            self.assertEqual(repairs(plan, wanted.split(" ")), repairing, (rules, wanted))

    def test_made_up_plans(self):
        for plan in [WISE, LOOSE, TAKING] + made_up(33, 10):
            happening = set(goals(plan))
            without = [set(goals(plan.without(at))) for at in range(len(plan))]
            for many in range(6):
                for wanted in combinations(GOALS, many):
                    own = happening & set(wanted)
                    needless = tuple(at for at, told in enumerate(without) if told & set(wanted) == own)
                    self.assertEqual(needless_rules(plan, wanted), needless, (str(plan), wanted))
                    repairing = tuple(at for at, told in enumerate(without) if not told & set(wanted))
                    self.assertEqual(repairs(plan, wanted), repairing, (str(plan), wanted))

    def test_the_kinds_that_raise_stay(self):
        plan = plan_of("on ask if level whole and later whole do take ; on stop do take ; on day")
        self.assertEqual((needless_rules(plan, ["back"]), repairs(plan, ["back"])), ((2,), (0, 1)))
        plan = plan.raising(["ask"])
        self.assertEqual((needless_rules(plan, ["back"]), repairs(plan, ["back"])), ((0, 1, 2), (0, 1, 2)))

    def test_nothing_wanted(self):
        for plan in (Plan(), WISE, LOOSE):
            every = tuple(range(len(plan)))
            self.assertEqual((needless_rules(plan, ()), repairs(plan, [])), (every, every))


class Arguments(unittest.TestCase):
    def test_one_goal_wanted_twice(self):
        for plan in (WISE, LOOSE, plan_of(MIXED)):
            for call in CALLS:
                for wanted in (["back"], ["deaf", "lost"], list(GOALS)):
                    self.assertEqual(call(plan, wanted), call(plan, tuple(wanted + wanted[::-1])))
                    self.assertIsInstance(call(plan, wanted), tuple)

    def test_any_values_among_the_wanted_ones(self):
        for value in any_values() + ["Back", "back ", "goals", ("back",), ["elder"]]:
            for call in CALLS:
                for wanted in ([value], (value,), ["back", value], (value, "deaf"), [*GOALS, value, "back"]):
                    self.assertEqual(refusal(call, WISE, wanted), (InvalidGoal, {}), value)

    def test_by_name_and_same_result(self):
        wanted = ["lost", "back"]
        before = [call(LOOSE, wanted) for call in CALLS]
        self.assertEqual([call(plan=LOOSE, wanted=wanted) for call in CALLS], before)
        self.assertEqual([call(LOOSE, tuple(wanted)) for call in CALLS], before)
        self.assertEqual(wanted, ["lost", "back"])

    def test_eight_rules(self):
        plans = [plan for plan in made_up(34, 60) if len(plan) == 8][:4]
        self.assertEqual(len(plans), 4)
        for plan in plans:
            for call in CALLS:
                self.assertIsInstance(call(plan, GOALS), tuple)


if __name__ == "__main__":
    unittest.main()
