"""Promises [16] to [20], and [1] to [3] where they are about papers."""

import unittest
from itertools import product
from random import Random

from overtaken.deciding import happens, weaving
from overtaken.errors import InvalidGoal
from overtaken.papers import paper, paper_holds
from overtaken.plans import Plan
from tests import book
from tests.made import GOALS, LETTERS, LOOSE, TAKING, WISE, careful, made_up, nearly_careful
from tests.values import any_values, refusal

ALONE = ((("first", (("ask", True, "n"),)),), False, False)
GIVEN = tuple(((), word, over) for word in ("newest", "level", "elder") for over in (False, True))
COUNTING = Plan(careful().raises, careful().rules[:12]) + Plan.read("raise\non answer do count")


# An own part may be ahead of the whole one or behind it, with all of one number.
LATER = Plan.read("raise\non stop if later own do take\non day if later own do take\non day if not own do take")


def papers():
    """Plans, goals that do not happen with them, and papers for these."""
    rows = []
    for plan in [Plan(), Plan(["day"]), WISE, WISE.raising(["ask"]), LOOSE, TAKING, careful(), COUNTING, LATER]:
        for goal in GOALS:
            found = paper(plan, goal)
            if found is not None:
                rows.append((plan, goal, found))
    return rows


def parts_changed(value):
    """The value with one part of it, however deep, otherwise, away, or there twice; all other parts are the same."""
    words = ["", "n", "c", "w", "o", "no", "nw", "on", "nn", "cw", "x", "ask", "day", "off", "stop", "first", "newest",
             "level", "elder", "answer", "other", True, False, None, 0, 1, (), [], Plan()]
    for word in words:
        if word is not value and not (isinstance(word, str) and word == value):
            yield word
    if isinstance(value, tuple):
        yield list(value)
        yield value + value
        for at, part in enumerate(value):
            yield value[:at] + value[at + 1:]
            yield value[:at] + (part,) + value[at:]
            for other in parts_changed(part):
                yield value[:at] + (other,) + value[at + 1:]


class Papers(unittest.TestCase):
    def test_a_weaving_or_a_paper_never_both(self):
        for plan in [WISE, LOOSE, TAKING, careful()] + made_up(11, 60) + nearly_careful(12, 15):
            for goal in GOALS:
                found = paper(plan, goal)
                self.assertEqual(found is None, happens(plan, goal))
                self.assertEqual(found is None, weaving(plan, goal) is not None)
                if found is not None:
                    self.assertIsInstance(found, tuple)
                    self.assertIs(paper_holds(plan, goal, found), True)

    def test_papers_are_right(self):
        plans = made_up(13, 25) + nearly_careful(14, 5) + [careful()]
        for plan, goal, found in papers() + [(plan, goal, paper(plan, goal)) for plan in plans for goal in GOALS]:
            if found is None:
                self.assertIsNone(book.reached(plan, goal))
            else:
                self.assertTrue(all(book.has_form(plan.raises, goal, standing) for standing in found))
                self.assertTrue(book.is_right(plan, goal, found), (str(plan), goal))

    def test_small_papers(self):
        self.assertEqual(paper(Plan(), "back"), (((),),))
        self.assertTrue(paper_holds(Plan(), "back", (((),),)))
        self.assertFalse(paper_holds(Plan(), "back", ()))
        lost = tuple((line, came, False) for line, _, _ in book.beginnings(Plan(), "lost") for came in (False, True))
        self.assertEqual(len(lost), 10)
        self.assertTrue(paper_holds(Plan(), "lost", lost))
        self.assertFalse(paper_holds(Plan(), "elder", lost))
        line = (("first", (("ask", True, "n"),)),)
        self.assertIn((line, False, False), lost)
        self.assertFalse(paper_holds(Plan(), "lost", tuple(row for row in lost if row != (line, True, False))))

    def test_beginnings(self):
        for raises in (["ask"], ["day", "stop"], [], LETTERS):
            for goal in ("lost", "wrong"):
                found = paper(Plan(raises), goal)
                self.assertGreaterEqual(set(found), set(book.beginnings(Plan(raises), goal)))
        self.assertEqual(len(book.beginnings(Plan(LETTERS), "wrong")), 5)
        self.assertEqual(len(book.beginnings(Plan(["ask"]), "wrong")), 8)


class Holding(unittest.TestCase):
    def test_any_order_and_twice(self):
        random = Random(3)
        for plan, goal, found in papers():
            rows = list(found)
            random.shuffle(rows)
            self.assertTrue(paper_holds(plan, goal, tuple(rows)))
            self.assertTrue(paper_holds(plan, goal, found[::-1] + found[:2]))
            self.assertTrue(paper_holds(plan, goal, (found * (8000 // len(found) + 1))[:8000 + len(found)]))

    def test_needed_standings_left_out(self):
        random = Random(4)
        for plan, goal, found in papers():
            # All of them come about, so that all are needed.
            self.assertEqual(set(found), book.reached(plan, goal))
            for at in random.sample(range(len(found)), min(25, len(found))):
                less = found[:at] + found[at + 1:]
                self.assertIs(paper_holds(plan, goal, less), False, (str(plan), goal, found[at]))
                self.assertIs(paper_holds(plan, goal, less + found[at + 1:]), False)
            self.assertFalse(paper_holds(plan, goal, ()))

    def test_paper_for_another_goal_or_plan(self):
        plans = [Plan(), WISE, LOOSE, TAKING, careful()]
        for (plan, goal, found), other, aim in product(papers(), plans, GOALS):
            if len(found) < 300:
                form = all(book.has_form(other.raises, aim, standing) for standing in found)
                expected = form and book.is_right(other, aim, found)
                self.assertEqual(paper_holds(other, aim, found), expected, (str(plan), goal, str(other), aim))

    def test_goals_that_happen(self):
        for plan in (WISE, LOOSE, TAKING):
            for goal in GOALS:
                if happens(plan, goal):
                    rows = set(book.beginnings(plan, goal))
                    for _ in range(3):
                        rows.update(*(book.steps(plan, goal, standing) for standing in sorted(rows)))
                    self.assertFalse(paper_holds(plan, goal, tuple(rows)))

    def test_over_where_nothing_raises(self):
        for raises in ([], ["ask", "stop"], ["day"], ["off"]):
            plan = Plan(raises)
            found = paper(plan, "wrong")
            self.assertTrue(paper_holds(plan, "wrong", found + GIVEN))
            alone = ((), "elder", False)
            self.assertEqual(paper_holds(plan, "wrong", found + (alone,)), raises not in (["day"], ["off"]))
            self.assertTrue(paper_holds(plan, "wrong", found + (alone, ((), "elder", True))))
            self.assertTrue(paper_holds(plan, "wrong", found + (((), "level", True),)))

    def test_answers_that_meet_the_goal(self):
        for test, level in (("level", True), ("not level", False)):
            plan = Plan.read(f"raise\non answer if {test} do count")
            for standing in GIVEN:
                _, word, over = standing
                counted = (word != "elder" and not over) == level
                wrong = paper_holds(plan, "wrong", paper(plan, "wrong") + (standing,))
                self.assertEqual(wrong, word == "newest" or not counted, (test, word, over))
                deaf = paper_holds(plan, "deaf", paper(plan, "deaf") + (standing,))
                self.assertEqual(deaf, word != "newest" or counted, (test, word, over))


class Form(unittest.TestCase):
    def test_any_values(self):
        for plan, goal, found in papers()[:12]:
            for value in any_values():
                expected = goal == "back" and value == (((),),)
                self.assertIs(paper_holds(plan, goal, value), expected, value)
                empty = goal == "back" and value == ((),)
                self.assertIs(paper_holds(plan, goal, found + (value,)), empty, value)
                self.assertIs(paper_holds(plan, goal, (value,) + found), empty, value)
            self.assertIs(paper_holds(plan, goal, list(found)), False)

    def check(self, plan, goal, found, value):
        """One value more: it has to have the form, and what comes of it has to be there."""
        expected = book.has_form(plan.raises, goal, value)
        if expected:
            expected = not book.meets(plan, goal, value) and book.steps(plan, goal, value) <= set(found) | {value}
        self.assertIs(paper_holds(plan, goal, found + (value,)), expected, (str(plan), goal, value))
        return expected

    def test_parts_otherwise(self):
        random = Random(5)
        seen = set()
        for plan, goal, found in papers():
            for standing in random.sample(found, min(4, len(found))):
                rows = list(parts_changed(standing))
                for value in random.sample(rows, min(len(rows), 4000 // len(found) + 5)):
                    seen.add((goal, self.check(plan, goal, found, value)))
        self.assertEqual(len(seen), 10)

    def test_soundness(self):
        # Without rules nothing comes of a line, so that a further one of the right form does no harm.
        seen = {True: 0, False: 0}
        for raises in ([], ["ask"], ["day", "stop"], ["off"], LETTERS):
            plan = Plan(raises)
            found = paper(plan, "wrong") + GIVEN
            ends = [(kind, begins, marks) for kind in LETTERS for begins in (True, False) for marks in ("n", "no", "nw")]
            for begin, last in product(book.BEGINS, ends):
                lines = [((begin, (last,)),)]
                for kind, begins, marks in product(LETTERS, (True, False), ("o", "w")):
                    ahead = (kind, begins, marks)
                    lines.append(((begin, (ahead, last)),))
                    lines.append(((begin, (last, ahead)),))
                    lines.extend(((other, (ahead,)), (begin, (last,))) for other in ("first", "ask", "off"))
                for line in lines:
                    expected = self.check(plan, "wrong", found, (line, "", False))
                    self.assertEqual(expected, book.is_sound(plan.raises, line))
                    seen[expected] += 1
        self.assertGreater(min(seen.values()), 50)

    def test_soundness_of_lines_without_the_newest_letter(self):
        for raises in ([], ["ask"], ["off", "stop"], ["day"]):
            plan = Plan(raises)
            found = paper(plan, "back")
            for begin, kind, begins, marks in product(book.BEGINS, LETTERS, (True, False), book.subsets("cnow")):
                self.check(plan, "back", found, (((begin, ((kind, begins, marks),)),),))
                for other in (("day", False, "o"), ("off", True, "o"), ("stop", False, "c")):
                    self.check(plan, "back", found, (((begin, ((kind, begins, marks), other)),),))
                    self.check(plan, "back", found, ((("first", (other,)), (begin, ((kind, begins, marks),))),))

    def test_marks_that_are_wrong(self):
        found = paper(Plan(), "lost") + tuple(
            (((("first", (("ask", False, marks),)),)), came, False) for marks in ("n", "nw") for came in (False, True)
        )
        for marks in ("", "N", "wn", "nn", "n ", "nx", "nc", "co", "nwo", "now", "nnw", "newest"):
            value = (((("first", (("ask", False, marks),)),)), True, False)
            self.assertFalse(paper_holds(Plan(), "lost", found + (value,)), marks)

    def test_words_and_bools(self):
        found = paper(Plan(), "wrong")
        line = ALONE[0]
        self.assertIn((line, "", False), found)
        for rest in (("", True), ("newest", False), ("level", False), (False, False), ("", 0), ("", None), ("",), ()):
            self.assertFalse(paper_holds(Plan(), "wrong", found + ((line,) + rest,)), rest)
        for rest in (("", False), ("", True), ("old", False), ("Newest", True), ("level", 1), (False, False), ("level",)):
            self.assertFalse(paper_holds(Plan(), "wrong", found + (((),) + rest,)), rest)
        lost = paper(Plan(), "lost")
        for rest in ((0, 0), (1, False), (True, 0), (None, False), ("", False), (True, False, False), (True,)):
            self.assertFalse(paper_holds(Plan(), "lost", lost + ((line,) + rest,)), rest)
        self.assertFalse(paper_holds(Plan(), "lost", lost + (((), True, False),)))
        for value in ((), ((), False), (line,), [()], ([],), (None,)):
            self.assertFalse(paper_holds(Plan(), "back", (((),), value)), value)


class Arguments(unittest.TestCase):
    def test_any_values_as_goals(self):
        for value in any_values():
            self.assertEqual(refusal(paper, WISE, value), (InvalidGoal, {}), value)
            self.assertEqual(refusal(paper_holds, WISE, value, ()), (InvalidGoal, {}), value)
            self.assertEqual(refusal(paper_holds, None, value, None), (InvalidGoal, {}), value)

    def test_by_name_and_same_result(self):
        found = paper(plan=WISE, goal="back")
        self.assertEqual(found, paper(WISE, "back"))
        self.assertTrue(paper_holds(plan=WISE, goal="back", value=found))
        self.assertTrue(paper_holds(WISE, "back", found))
        self.assertEqual(found, paper(WISE, "back"))

    def test_fourteen_rules(self):
        plans = [plan for plan in made_up(15, 80, 14) if len(plan) == 14]
        for plan in plans + [careful().raising([kind]) for kind in LETTERS]:
            for goal in GOALS:
                found = paper(plan, goal)
                self.assertEqual(found is None, happens(plan, goal))
                self.assertTrue(found is None or paper_holds(plan, goal, found))


if __name__ == "__main__":
    unittest.main()
