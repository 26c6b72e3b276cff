"""Promises [7], [8] and [9], and [1] and [2] where they are about rules."""

import unittest
from itertools import product

from overtaken.errors import InvalidRule, InvalidText, LetterError
from overtaken.rules import Rule
from tests.texts import changed, is_rule_text
from tests.values import any_values, no_sequences, refusal, sequences

LETTERS = ("ask", "day", "stop", "off")
KINDS = LETTERS + ("answer",)
BARE_TESTS = ["whole", "own", "above whole", "above own", "level whole", "level own", "later whole", "later own"]
LETTER_TESTS = BARE_TESTS + ["not " + test for test in BARE_TESTS]
ANSWER_TESTS = ["level", "not level"]
LETTER_DEEDS = ["take", "wipe"]
ANSWER_DEEDS = ["count", "drop"]

TEXTS = [
    "on ask",
    "on answer",
    "on stop do take",
    "on day do wipe then wipe then take then take",
    "on off if own",
    "on ask if whole and not level whole do take then wipe",
    "on day if not later own and not later own and above whole and level own do wipe",
    "on answer if level do count",
    "on answer if not level and level and level and not level do drop then count then drop then drop",
]


def tests_of(kind):
    return ANSWER_TESTS if kind == "answer" else LETTER_TESTS


def deeds_of(kind):
    return ANSWER_DEEDS if kind == "answer" else LETTER_DEEDS


def parts(rule):
    return rule.kind, rule.tests, rule.deeds


class Arguments(unittest.TestCase):
    def test_every_test_and_deed_of_every_kind(self):
        for kind in KINDS:
            for test, deed in product(tests_of(kind), deeds_of(kind)):
                self.assertEqual(parts(Rule(kind, [test], [deed])), (kind, (test,), (deed,)))

    def test_no_tests_and_no_deeds(self):
        for kind in KINDS:
            self.assertEqual(parts(Rule(kind)), (kind, (), ()))
            self.assertEqual(parts(Rule(kind, [], [])), (kind, (), ()))
            self.assertEqual(parts(Rule(kind, deeds=deeds_of(kind))), (kind, (), tuple(deeds_of(kind))))
            self.assertEqual(parts(Rule(kind, tests_of(kind)[:2])), (kind, tuple(tests_of(kind)[:2]), ()))

    def test_four_of_each_stay_in_their_order(self):
        tests = ["own", "whole", "not own", "not later whole"]
        deeds = ["wipe", "take", "wipe", "take"]
        self.assertEqual(parts(Rule("off", tests, deeds)), ("off", tuple(tests), tuple(deeds)))
        tests = ["not level", "level", "not level", "level"]
        deeds = ["drop", "count", "count", "drop"]
        self.assertEqual(parts(Rule("answer", tests, deeds)), ("answer", tuple(tests), tuple(deeds)))

    def test_one_may_stand_there_twice(self):
        self.assertEqual(Rule("day", ["own", "own"], ["take", "take"]).tests, ("own", "own"))
        self.assertEqual(Rule("day", ["own", "own"], ["take", "take"]).deeds, ("take", "take"))

    def test_more_than_four_are_no_error(self):
        rule = Rule("day", LETTER_TESTS, LETTER_DEEDS * 4)
        self.assertEqual(parts(rule), ("day", tuple(LETTER_TESTS), tuple(LETTER_DEEDS * 4)))
        self.assertEqual(parts(Rule.read(str(rule))), parts(rule))

    def test_by_name_and_in_any_order(self):
        rule = Rule(deeds=("take",), kind="ask", tests=("whole",))
        self.assertEqual(parts(rule), ("ask", ("whole",), ("take",)))
        self.assertEqual(parts(Rule("ask", deeds=("take",))), ("ask", (), ("take",)))
        self.assertEqual(parts(Rule.read(text="on ask do take")), ("ask", (), ("take",)))

    def test_lists_changed_behind_the_call(self):
        tests, deeds = ["whole"], ["take"]
        rule = Rule("ask", tests, deeds)
        tests.append("own")
        deeds[0] = "wipe"
        self.assertEqual(parts(rule), ("ask", ("whole",), ("take",)))
        self.assertEqual((tests, deeds), (["whole", "own"], ["wipe"]))

    def test_arguments_are_not_changed(self):
        tests, deeds = ["whole", "own"], ["wipe", "take"]
        Rule("ask", tests, deeds)
        self.assertEqual((tests, deeds), (["whole", "own"], ["wipe", "take"]))


class WrongArguments(unittest.TestCase):
    def test_kinds(self):
        for value in any_values():
            expected = None if isinstance(value, str) and value in KINDS else (InvalidRule, {"word": "kind"})
            self.assertEqual(refusal(Rule, value), expected, value)
            self.assertEqual(refusal(Rule, kind=value), expected, value)

    def test_no_sequences(self):
        for kind, value in product(KINDS, no_sequences()):
            self.assertEqual(refusal(Rule, kind, value), (InvalidRule, {"word": "tests"}), value)
            self.assertEqual(refusal(Rule, kind, [], value), (InvalidRule, {"word": "deeds"}), value)

    def test_sequences(self):
        for kind, value in product(KINDS, sequences()):
            good = all(isinstance(item, str) and item in tests_of(kind) for item in value)
            self.assertEqual(refusal(Rule, kind, value), None if good else (InvalidRule, {"word": "tests"}), value)
            good = all(isinstance(item, str) and item in deeds_of(kind) for item in value)
            self.assertEqual(refusal(Rule, kind, (), value), None if good else (InvalidRule, {"word": "deeds"}), value)

    def test_one_wrong_item_among_right_ones(self):
        for kind, value in product(KINDS, no_sequences() + [["take"], ("level",)]):
            if value in tests_of(kind) + deeds_of(kind):
                continue
            for at in range(3):
                tests = tests_of(kind)[:2]
                deeds = deeds_of(kind)[:2]
                tests.insert(at, value)
                deeds.insert(at, value)
                self.assertEqual(refusal(Rule, kind, tests), (InvalidRule, {"word": "tests"}), tests)
                self.assertEqual(refusal(Rule, kind, [], deeds), (InvalidRule, {"word": "deeds"}), deeds)

    def test_tests_that_are_none(self):
        wrong = ["not not whole", "not", "not ", " whole", "whole ", "notwhole", "not  whole", "above", "above level",
                 "above whole own", "Whole", "whole not", "above not whole", "later", "whole and own", "take", "wipe"]
        for kind in LETTERS:
            for test in wrong + ANSWER_TESTS + ["above", "later"]:
                self.assertEqual(refusal(Rule, kind, [test]), (InvalidRule, {"word": "tests"}), test)
        for test in wrong + LETTER_TESTS + ["not not level", "level level", "level and level"]:
            self.assertEqual(refusal(Rule, "answer", [test]), (InvalidRule, {"word": "tests"}), test)

    def test_deeds_that_are_none(self):
        wrong = ["not take", "take ", "take then wipe", "Take", "", "whole", "level", "not count"]
        for kind in LETTERS:
            for deed in wrong + ANSWER_DEEDS:
                self.assertEqual(refusal(Rule, kind, [], [deed]), (InvalidRule, {"word": "deeds"}), deed)
        for deed in wrong + LETTER_DEEDS:
            self.assertEqual(refusal(Rule, "answer", [], [deed]), (InvalidRule, {"word": "deeds"}), deed)

    def test_order_of_errors(self):
        self.assertEqual(refusal(Rule, None, None, None), (InvalidRule, {"word": "kind"}))
        self.assertEqual(refusal(Rule, "ask", None, None), (InvalidRule, {"word": "tests"}))
        self.assertEqual(refusal(Rule, "ask", ["whole"], None), (InvalidRule, {"word": "deeds"}))
        self.assertEqual(refusal(Rule, "asks", ["whole"], ["take"]), (InvalidRule, {"word": "kind"}))


class Texts(unittest.TestCase):
    def test_example(self):
        rule = Rule("ask", ("whole", "not level whole"), ("take", "wipe"))
        self.assertEqual(str(rule), "on ask if whole and not level whole do take then wipe")

    def test_text_of_parts(self):
        self.assertEqual(str(Rule("answer")), "on answer")
        self.assertEqual(str(Rule("stop", ["own"])), "on stop if own")
        self.assertEqual(str(Rule("off", [], ["wipe"])), "on off do wipe")
        self.assertEqual(
            str(Rule("answer", ["level", "not level", "level"], ["drop", "count", "drop"])),
            "on answer if level and not level and level do drop then count then drop",
        )

    def test_read_gives_the_rule_with_the_text(self):
        for text in TEXTS:
            self.assertTrue(is_rule_text(text))
            rule = Rule.read(text)
            self.assertIsInstance(rule, Rule)
            self.assertEqual(str(rule), text)

    def test_read_and_str_go_together(self):
        for kind in KINDS:
            some = tests_of(kind)[::3]
            for tests in [(), *product(some, repeat=1), *product(some, repeat=2), (some[0],) * 4]:
                for deeds in [(), *product(deeds_of(kind), repeat=1), *product(deeds_of(kind), repeat=4)]:
                    rule = Rule(kind, tests, deeds)
                    self.assertEqual(parts(Rule.read(str(rule))), (kind, tests, deeds))

    def test_any_other_string(self):
        for text in TEXTS:
            for other in changed(text):
                if is_rule_text(other):
                    self.assertEqual(str(Rule.read(other)), other)
                else:
                    self.assertEqual(refusal(Rule.read, other), (InvalidText, {"at": 0}), other)

    def test_wrong_texts_by_hand(self):
        wrong = [
            "", " ", "on", "on ", "ask", "on on ask", "on ask ", " on ask", "on  ask", "on ask\n", "\non ask", "On ask",
            "on ask if", "on ask if ", "on ask do", "on ask do ", "on ask if do take", "on ask do take if whole",
            "on ask if whole if own", "on ask do take do wipe", "on ask if whole then own", "on ask do take and wipe",
            "on ask if whole and", "on ask if and whole", "on ask do then take", "on ask do take then",
            "on ask if not not whole", "on ask if not", "on ask if whole, own", "on ask whole", "on ask take",
            "on answer if whole", "on answer do take", "on ask if level", "on day do count", "on ask\ton day",
            "on ask\non day", "on off\r", "raise", "raise\non ask", "x" * 1000, "on ask do " + "take then " * 90,
        ]
        for text in wrong:
            self.assertFalse(is_rule_text(text))
            self.assertEqual(refusal(Rule.read, text), (InvalidText, {"at": 0}), text)

    def test_the_error_is_a_letter_error(self):
        with self.assertRaises(LetterError):
            Rule.read("on ask do count")


class Comparing(unittest.TestCase):
    def test_equal_if_their_texts_are(self):
        texts = TEXTS + ["on day", "on ask do take", "on ask do wipe", "on ask if own", "on ask if whole",
                         "on ask if whole and own", "on ask if own and whole", "on ask if own and own",
                         "on ask do take then wipe", "on ask do wipe then take", "on ask do take then take"]
        for one, other in product(texts, texts):
            self.assertEqual(Rule.read(one) == Rule.read(other), one == other, (one, other))
            self.assertEqual(Rule.read(one) != Rule.read(other), one != other, (one, other))

    def test_lists_or_tuples_make_no_difference(self):
        self.assertEqual(Rule("ask", ["own"], ("take",)), Rule("ask", ("own",), ["take"]))

    def test_equal_to_nothing_of_another_class(self):
        rule = Rule("ask", ["own"], ["take"])
        others = [value for value in any_values() if not isinstance(value, Rule)]
        for other in others + ["on ask if own do take", ("ask", ("own",), ("take",)), object()]:
            self.assertFalse(rule == other, other)
            self.assertFalse(other == rule, other)
            self.assertTrue(rule != other, other)

    def test_not_iterable(self):
        for call in (iter, list, tuple, sorted):
            with self.assertRaises(TypeError):
                call(Rule.read("on ask if own do take"))
        with self.assertRaises(TypeError):
            "own" in Rule.read("on ask if own do take")

    def test_same_call_same_result(self):
        rule = Rule.read(TEXTS[5])
        before = str(rule), parts(rule)
        refusal(Rule, "ask", ["level"])
        self.assertEqual(rule == Rule.read(TEXTS[4]), False)
        self.assertEqual((str(rule), parts(rule)), before)


if __name__ == "__main__":
    unittest.main()
