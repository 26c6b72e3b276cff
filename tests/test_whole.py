"""Promises [1] and [2] over the whole program: nothing depends on what was asked or done in between."""

import unittest
from random import Random

from overtaken.alike import alike, parting
from overtaken.deciding import comes, goals, happens, shown, weaving
from overtaken.desk import Desk
from overtaken.errors import InvalidGoal
from overtaken.needs import least_raises, needless_rules, repairs
from overtaken.papers import paper, paper_holds
from overtaken.plans import Plan
from overtaken.post import Post
from overtaken.weavings import play
from tests.made import GOALS, LOOSE, TAKING, WISE, made_up
from tests.office import Office, any_deed
from tests.values import refusal


def decided(plan, other):
    """All that is told of a plan, and of it beside another one in which the same kinds raise."""
    return (
        str(plan), goals(plan), shown(plan), [comes(plan, at) for at in range(len(plan))],
        [(happens(plan, goal), weaving(plan, goal), paper(plan, goal)) for goal in GOALS],
        least_raises(plan, ["back"]), needless_rules(plan, GOALS), repairs(plan, ["lost"]),
        alike(plan, other), parting(plan, other),
    )


class Between(unittest.TestCase):
    def test_plans_are_decided_alike_before_and_behind(self):
        random = Random(71)
        for plan in [LOOSE, TAKING, WISE] + made_up(72, 3):
            other = TAKING.raising(plan.raises)
            before = decided(plan, other)
            post, office = Post(plan, 2), Office(plan, 2)
            for _ in range(60):
                name, args = any_deed(random, office)
                if office.word_for(name, args) is None:
                    office.do(name, args)
                    getattr(post, name)(*args)
            post.within(lambda inner: inner.send("ask"))
            desk = Desk()
            for command in ("plan " + str(plan).replace("\n", " ; "), "goals", "raises back", "weaving elder", "post 2",
                            "send day 1", "come ann 1", "undo"):
                desk.say(command)
            self.assertEqual(decided(plan, other), before)
            self.assertEqual(decided(Plan.read(str(plan)), other), before)
            self.assertIs(post.plan, plan)

    def test_what_is_returned_may_be_passed_on(self):
        for plan in (LOOSE, TAKING, WISE):
            for goal in GOALS:
                for kinds in least_raises(plan, [goal]):
                    self.assertNotIn(goal, goals(plan.raising(kinds)))
                    table = paper(plan.raising(kinds), goal)
                    self.assertTrue(paper_holds(plan.raising(kinds), goal, table))
                for at in repairs(plan, goals(plan)[:1]):
                    self.assertFalse(happens(plan.without(at), goals(plan)[0]))
            post = Post(plan)
            for _ in range(30):
                post.send("stop")
                post.come("ann", len(post.sent) - 1)
            self.assertEqual(play(plan, post.weaving_for("ann", 0)).shows[-1], post.look("ann", 0))
            self.assertEqual(play(plan, list(post.weaving_for("ann", 0))).goals, post.goals_for("ann", 0))

    def test_later_changes_to_arguments(self):
        wanted = ["back"]
        found = least_raises(LOOSE, wanted)
        wanted.append("elder")
        self.assertEqual(found, least_raises(LOOSE, ["back"]))
        rules = list(TAKING.rules)
        plan = Plan([], rules)
        post = Post(plan)
        rules.clear()
        post.come("ann", 0)
        self.assertEqual(post.look("ann", 0), 0)

    def test_objects_of_this_package_among_any_values(self):
        for value in (Post(TAKING), Desk(), Post(TAKING).trial(), play(TAKING, [])):
            for call in (least_raises, needless_rules, repairs):
                self.assertEqual(refusal(call, TAKING, [value]), (InvalidGoal, {}))
            self.assertEqual(refusal(happens, TAKING, value), (InvalidGoal, {}))
            self.assertFalse(paper_holds(Plan(), "back", value))
            self.assertFalse(paper_holds(Plan(), "back", (((),), value)))


if __name__ == "__main__":
    unittest.main()
