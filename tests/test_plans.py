"""Promises [5] and [10], and [1] and [2] where they are about plans."""

import unittest
from itertools import permutations, product

from overtaken.errors import InvalidPlan, InvalidText, NoRule
from overtaken.plans import Plan
from overtaken.rules import Rule
from tests.texts import changed, is_rule_text
from tests.values import any_values, no_sequences, refusal, sequences

LETTERS = ("ask", "day", "off", "stop")
WISE = (
    "raise ask day off stop\non ask if not whole do take\non ask if above whole do take\n"
    "on stop if not whole do take\non stop if above whole do take"
)
LINES = [
    "on ask do take", "on day if own", "on answer if not level do drop", "on off", "on stop do wipe then take",
]
RULES = [Rule.read(line) for line in LINES]


def all_raises():
    """Each choice of kinds in each order."""
    return [row for many in range(5) for row in permutations(LETTERS, many)]


def first_wrong_line(text):
    """The number of the first line that is wrong, or None, told by other means than the program's."""
    lines = text.split("\n")
    if lines[0] not in {" ".join(("raise",) + row) for row in all_raises()}:
        return 0
    for at, line in enumerate(lines):
        if at > 0 and not is_rule_text(line):
            return at
    return None


def parts(plan):
    return plan.raises, plan.rules


class Arguments(unittest.TestCase):
    def test_no_arguments(self):
        self.assertEqual(parts(Plan()), ((), ()))
        self.assertEqual((len(Plan()), str(Plan())), (0, "raise"))

    def test_kinds_in_any_order_are_ascending(self):
        for row in all_raises():
            self.assertEqual(Plan(row).raises, tuple(sorted(row)))
            self.assertEqual(Plan(list(row)).raises, tuple(sorted(row)))

    def test_rules_stay_in_their_order(self):
        for row in permutations(RULES, 3):
            self.assertEqual(Plan((), row).rules, row)
            self.assertEqual(Plan([], list(row)).rules, row)
        self.assertEqual(Plan((), [RULES[0], RULES[0]]).rules, (RULES[0], RULES[0]))

    def test_by_name(self):
        self.assertEqual(parts(Plan(rules=RULES, raises=["off", "day"])), (("day", "off"), tuple(RULES)))
        self.assertEqual(parts(Plan(rules=RULES)), ((), tuple(RULES)))
        self.assertEqual(str(Plan.read(text=WISE)), WISE)
        plan = Plan(["ask"], RULES)
        self.assertEqual(plan.without(at=1), plan.without(1))
        self.assertEqual(plan.raising(raises=["day"]), plan.raising(["day"]))

    def test_fourteen_rules_and_more(self):
        self.assertEqual(len(Plan((), RULES * 2 + RULES[:4])), 14)
        self.assertEqual(len(Plan((), RULES * 5)), 25)

    def test_lists_changed_behind_the_call(self):
        raises, rules = ["stop", "ask"], list(RULES)
        plan = Plan(raises, rules)
        other = plan.raising(raises)
        raises.append("day")
        rules.pop()
        self.assertEqual(parts(plan), (("ask", "stop"), tuple(RULES)))
        self.assertEqual(parts(other), (("ask", "stop"), tuple(RULES)))

    def test_arguments_are_not_changed(self):
        raises, rules = ["stop", "ask"], list(RULES)
        Plan(raises, rules).raising(raises)
        self.assertEqual((raises, rules), (["stop", "ask"], RULES))


class WrongArguments(unittest.TestCase):
    def check_raises(self, value):
        good = isinstance(value, (list, tuple))
        good = good and all(isinstance(item, str) and item in LETTERS for item in value)
        good = good and all(list(value).count(item) == 1 for item in value)
        expected = None if good else (InvalidPlan, {"word": "raises"})
        self.assertEqual(refusal(Plan, value), expected, value)
        self.assertEqual(refusal(Plan, value, RULES), expected, value)
        self.assertEqual(refusal(Plan, raises=value), expected, value)
        self.assertEqual(refusal(Plan((), RULES).raising, value), expected, value)
        self.assertEqual(refusal(Plan().raising, raises=value), expected, value)

    def test_raises_of_any_value(self):
        for value in any_values():
            self.check_raises(value)

    def test_raises_with_a_wrong_item(self):
        for value in any_values():
            for at in range(3):
                row = ["off", "ask"]
                row.insert(at, value)
                self.check_raises(row)
                self.check_raises(tuple(row))

    def test_raises_with_a_kind_twice(self):
        for row in product(LETTERS, repeat=3):
            self.check_raises(row)
        self.check_raises(list(LETTERS) + ["ask"])

    def test_answer_is_no_kind_of_a_letter(self):
        self.check_raises(["answer"])
        self.check_raises(["ask", "answer"])

    def test_rules_that_are_no_sequence(self):
        for value in no_sequences():
            self.assertEqual(refusal(Plan, (), value), (InvalidPlan, {"word": "rules"}), value)

    def test_rules_of_any_value(self):
        for value in sequences():
            good = all(isinstance(item, Rule) for item in value)
            self.assertEqual(refusal(Plan, (), value), None if good else (InvalidPlan, {"word": "rules"}), value)

    def test_rules_with_a_wrong_item(self):
        for value in any_values() + LINES:
            if not isinstance(value, Rule):
                for at in range(3):
                    row = RULES[:2]
                    row.insert(at, value)
                    self.assertEqual(refusal(Plan, ["ask"], row), (InvalidPlan, {"word": "rules"}), value)

    def test_order_of_errors(self):
        self.assertEqual(refusal(Plan, None, None), (InvalidPlan, {"word": "raises"}))
        self.assertEqual(refusal(Plan, ["ask", "ask"], ["x"]), (InvalidPlan, {"word": "raises"}))
        self.assertEqual(refusal(Plan, ["ask"], ["x"]), (InvalidPlan, {"word": "rules"}))


class Indexes(unittest.TestCase):
    def test_index_and_length(self):
        for many in range(len(RULES) + 1):
            plan = Plan(["day"], RULES[:many])
            self.assertEqual(len(plan), many)
            self.assertEqual([str(plan[at]) for at in range(many)], LINES[:many])

    def test_without(self):
        plan = Plan(["stop", "day"], RULES)
        for at in range(len(RULES)):
            other = plan.without(at)
            self.assertIsInstance(other, Plan)
            self.assertEqual(other.raises, ("day", "stop"))
            self.assertEqual([str(rule) for rule in other.rules], LINES[:at] + LINES[at + 1:])
        self.assertEqual([str(rule) for rule in plan.rules], LINES)
        self.assertEqual(Plan(["ask"], RULES[:1]).without(0), Plan(["ask"]))

    def test_without_takes_away_one_of_two_equal_rules(self):
        self.assertEqual(Plan((), [RULES[0], RULES[0]]).without(1).rules, (RULES[0],))

    def test_integers_that_are_no_index(self):
        for many in range(4):
            plan = Plan((), RULES[:many])
            for at in (-1, -many, -many - 1, many, many + 1, 10 ** 30, -10 ** 30):
                if not 0 <= at < many:
                    self.assertEqual(refusal(plan.without, at), (NoRule, {"at": at}))
                    self.assertEqual(refusal(lambda: plan[at]), (NoRule, {"at": at}))

    def test_bools_are_no_index(self):
        plan = Plan((), RULES)
        for at in (True, False):
            self.assertIsNotNone(refusal(plan.without, at))
            self.assertIsNotNone(refusal(lambda: plan[at]))


class Raising(unittest.TestCase):
    def test_these_kinds_instead(self):
        plan = Plan(["ask", "day"], RULES)
        for row in all_raises():
            other = plan.raising(row)
            self.assertIsInstance(other, Plan)
            self.assertEqual(parts(other), (tuple(sorted(row)), tuple(RULES)))
        self.assertEqual(parts(plan), (("ask", "day"), tuple(RULES)))


class Adding(unittest.TestCase):
    def test_rules_of_both_and_kinds_of_one(self):
        for one, other in product(all_raises()[::3], all_raises()[::4]):
            both = Plan(one, RULES[:2]) + Plan(other, RULES[1:4])
            self.assertIsInstance(both, Plan)
            self.assertEqual(both.raises, tuple(sorted(set(one) | set(other))))
            self.assertEqual([str(rule) for rule in both.rules], LINES[:2] + LINES[1:4])

    def test_empty_plans(self):
        plan = Plan(["off"], RULES)
        self.assertEqual(plan + Plan(), plan)
        self.assertEqual(Plan() + plan, plan)
        self.assertEqual(Plan() + Plan(), Plan())

    def test_in_place_gives_a_new_plan(self):
        first = plan = Plan(["ask"], RULES[:1])
        second = Plan(["day"], RULES[1:2])
        plan += second
        self.assertEqual(parts(plan), (("ask", "day"), tuple(RULES[:2])))
        self.assertEqual(parts(first), (("ask",), tuple(RULES[:1])))
        self.assertEqual(parts(second), (("day",), tuple(RULES[1:2])))
        self.assertIsNot(plan, first)

    def test_only_plans_are_added(self):
        for value in any_values():
            if not isinstance(value, Plan):
                self.assertIsInstance(refusal(lambda: Plan() + value), tuple)
                self.assertEqual(refusal(lambda: Plan() + value)[0], TypeError)
                self.assertEqual(refusal(lambda: value + Plan())[0], TypeError)


class Texts(unittest.TestCase):
    def test_text(self):
        plan = Plan(("stop", "off", "ask"), [Rule("day", ["own"], ["wipe", "take"]), Rule("answer")])
        self.assertEqual(str(plan), "raise ask off stop\non day if own do wipe then take\non answer")
        self.assertEqual(str(Plan(["day"])), "raise day")
        self.assertEqual(str(Plan((), RULES[:1])), "raise\non ask do take")

    def test_example(self):
        wise = Plan.read(WISE)
        self.assertEqual(str(wise), WISE)
        self.assertEqual((wise.raises, len(wise)), (LETTERS, 4))
        self.assertEqual(wise[3], Rule("stop", ["above whole"], ["take"]))

    def test_read_and_str_go_together(self):
        for many, row in product(range(len(RULES) + 1), all_raises()):
            text = "\n".join([" ".join(("raise",) + row)] + LINES[:many])
            plan = Plan.read(text)
            self.assertIsInstance(plan, Plan)
            self.assertEqual(parts(plan), (tuple(sorted(row)), tuple(RULES[:many])))
            self.assertEqual(parts(Plan.read(str(plan))), parts(plan))

    def test_long_texts(self):
        rule = Rule("day", ["not later whole"] * 4, ["wipe"] * 4)
        plan = Plan(LETTERS, [rule] * 14)
        self.assertGreater(len(str(plan)), 1000)
        self.assertEqual(Plan.read(str(plan)), plan)

    def test_first_lines_that_are_wrong(self):
        wrong = [
            "", " ", "\n", "raises", "Raise", "raise ", " raise", "raise  ask", "raise ask ", " raise ask", "raise,ask",
            "raise ask ask", "raise ask day ask", "raise answer", "raise ask answer", "raise x", "raise raise", "ask",
            "raise ask,day", "raise Ask", "raise other", "raise ask\r", "on ask", "raise ask on ask", "raise other day",
        ]
        for line in wrong:
            for text in (line, line + "\non ask", line + "\nx"):
                self.assertEqual(refusal(Plan.read, text), (InvalidText, {"at": 0}), text)

    def test_rule_lines_that_are_wrong(self):
        wrong = ["", " ", "x", "raise", "on ask ", " on ask", "on ask do count", "on ask if level", "on  ask", "on"]
        for line in wrong:
            for at in range(1, len(LINES) + 2):
                lines = ["raise day"] + LINES
                lines.insert(at, line)
                self.assertEqual(refusal(Plan.read, "\n".join(lines)), (InvalidText, {"at": at}), lines)
                lines.append("y")
                self.assertEqual(refusal(Plan.read, "\n".join(lines)), (InvalidText, {"at": at}), lines)

    def test_newlines_too_many(self):
        self.assertEqual(refusal(Plan.read, "raise\n"), (InvalidText, {"at": 1}))
        self.assertEqual(refusal(Plan.read, "raise\n\non ask"), (InvalidText, {"at": 1}))
        self.assertEqual(refusal(Plan.read, WISE + "\n"), (InvalidText, {"at": 5}))
        self.assertEqual(refusal(Plan.read, "\n" + WISE), (InvalidText, {"at": 0}))

    def test_other_line_ends_are_none(self):
        for end in ("\r", "\v", "\f", "\x1c"):
            self.assertEqual(refusal(Plan.read, f"raise{end}on ask"), (InvalidText, {"at": 0}))
            self.assertEqual(refusal(Plan.read, f"raise\non ask{end}on day"), (InvalidText, {"at": 1}))
            self.assertEqual(refusal(Plan.read, f"raise\non ask{end}\non day"), (InvalidText, {"at": 1}))

    def test_changed_texts(self):
        for text in ("raise", "raise stop ask", "raise day off\non ask if not own do take then wipe\non answer do drop"):
            for other in changed(text):
                at = first_wrong_line(other)
                if at is None:
                    lines = other.split("\n")
                    kinds = sorted(lines[0].split(" ")[1:])
                    self.assertEqual(str(Plan.read(other)), "\n".join([" ".join(["raise"] + kinds)] + lines[1:]))
                else:
                    self.assertEqual(refusal(Plan.read, other), (InvalidText, {"at": at}), other)


class Comparing(unittest.TestCase):
    def test_equal_if_their_texts_are(self):
        texts = ["raise", "raise ask", "raise ask day", "raise\non ask", "raise ask\non ask", "raise\non ask\non day",
                 "raise\non day\non ask", "raise\non ask\non ask", "raise\non ask do take", WISE]
        for one, other in product(texts, texts):
            self.assertEqual(Plan.read(one) == Plan.read(other), one == other, (one, other))
            self.assertEqual(Plan.read(one) != Plan.read(other), one != other, (one, other))
        self.assertEqual(Plan.read("raise day ask"), Plan.read("raise ask day"))
        self.assertEqual(Plan(["off", "day"], RULES), Plan(("day", "off"), tuple(RULES)))

    def test_equal_to_nothing_of_another_class(self):
        plan = Plan(["ask"], RULES)
        others = [value for value in any_values() if not isinstance(value, Plan)]
        for other in others + [str(plan), plan.rules, list(plan.rules), parts(plan), RULES[0], object()]:
            self.assertFalse(plan == other, other)
            self.assertFalse(other == plan, other)
            self.assertTrue(plan != other, other)
        self.assertFalse(Plan() == ())

    def test_not_iterable(self):
        for plan in (Plan(), Plan(["ask"], RULES)):
            for call in (iter, list, tuple, sorted, set, enumerate):
                with self.assertRaises(TypeError):
                    call(plan)
            with self.assertRaises(TypeError):
                RULES[0] in plan
            with self.assertRaises(TypeError):
                [*plan]

    def test_same_call_same_result(self):
        plan = Plan.read(WISE)
        before = str(plan), parts(plan), len(plan)
        plan.without(0)
        plan.raising([])
        plan + plan
        refusal(plan.without, 9)
        refusal(plan.raising, ["x"])
        self.assertEqual((str(plan), parts(plan), len(plan)), before)
        self.assertEqual(plan.without(0), plan.without(0))


if __name__ == "__main__":
    unittest.main()
