"""Promises [5] to [8] as far as letters and answers come, [11] to [14], and [1] to [3] where they are about weavings."""

import unittest
from itertools import product
from random import Random

from overtaken.errors import InvalidWeaving
from overtaken.plans import Plan
from overtaken.rules import Rule
from overtaken.weavings import Played, play
from tests.guest import told
from tests.made import GOALS, LETTER_TESTS, LETTERS, LOOSE, TAKING, WISE, careful, made_up, made_up_weaving
from tests.values import any_values, no_sequences, refusal

DEEDS = ("ask", "day", "stop", "off", "other day", "other off")
TAKE = "on ask do take\non day do take\non off do take\non stop do take"


def wrong(at):
    return InvalidWeaving, {"at": at}


def raises_of(choice):
    return [kind for kind, bit in zip(LETTERS, choice) if bit]


class Letters(unittest.TestCase):
    def test_no_event(self):
        played = play(TAKING, [])
        self.assertIsInstance(played, Played)
        self.assertEqual(vars(played), {
            "letters": (("ask", 0),), "shows": (None,), "whole": None, "own": None, "answers": (), "counted": None,
            "rules": (), "goals": (),
        })

    def test_numbers(self):
        for choice in product((False, True), repeat=4):
            raises = raises_of(choice)
            number, letters = 0, [("ask", 0)]
            for deed in DEEDS + DEEDS[::-1]:
                kind = deed.split(" ")[-1]
                number += 1 if kind in raises else 0
                letters.append(("other" if deed.startswith("other") else kind, number))
            self.assertEqual(play(Plan(raises), DEEDS + DEEDS[::-1]).letters, tuple(letters))

    def test_the_first_letter_has_the_number_0(self):
        self.assertEqual(play(Plan(["ask"]), ["ask"]).letters, (("ask", 0), ("ask", 1)))

    def test_deeds_alone_change_nothing_else(self):
        played = play(TAKING, DEEDS)
        self.assertEqual((played.shows, played.rules), ((None,) * 7, (None,) * 6))
        self.assertEqual((played.whole, played.own, played.counted, played.goals), (None, None, None, ()))

    def test_example(self):
        played = play(LOOSE, ["day", "off", "come 2", "come 1", "come 0"])
        self.assertEqual(played.letters, (("ask", 0), ("day", 0), ("off", 0)))
        self.assertEqual(played.shows, (None, None, None, 2, 1, 1))
        self.assertEqual(played.goals, ("back", "elder"))
        self.assertEqual((played.whole, played.own, played.rules), (0, 1, (None, None, 2, 1, 0)))


class Copies(unittest.TestCase):
    def test_letters_late_twice_and_in_any_order(self):
        plan = Plan.read("raise ask\non ask if not whole do take\non ask if above whole do take")
        played = play(plan, ["ask", "come 1", "come 0", "come 1", "ask", "ask", "come 3", "come 2", "come 3"])
        self.assertEqual(played.shows, (None, None, 1, 1, 1, 1, 1, 3, 3, 3))
        self.assertEqual(played.rules, (None, 0, None, None, None, None, 1, None, None))
        self.assertEqual((played.whole, played.own), (3, None))

    def test_own_part_without_a_whole_one(self):
        played = play(TAKING, ["day", "off", "come 1", "come 2"])
        self.assertEqual((played.shows, played.whole, played.own), ((None, None, None, 1, 2), None, 2))

    def test_own_part_is_shown_ahead_of_the_whole_one(self):
        for own, whole in product(("day", "off"), ("ask", "stop")):
            for events in (["come 1", "come 2"], ["come 2", "come 1"]):
                played = play(TAKING, [own, whole] + events)
                self.assertEqual((played.whole, played.own, played.shows[-1]), (2, 1, 1))

    def test_wipe_shows_the_whole_part_or_nothing(self):
        plan = Plan.read("raise\non ask do take\non day do take\non off do wipe\non stop do wipe")
        played = play(plan, ["day", "off", "stop", "come 1", "come 2", "come 0", "come 1", "come 3", "come 3"])
        self.assertEqual(played.shows, (None, None, None, None, 1, None, 0, 1, 0, 0))
        self.assertEqual((played.whole, played.own), (0, None))

    def test_deeds_in_their_order(self):
        for deeds, own in ((["take"], 1), (["take", "wipe"], None), (["wipe", "take"], 1), (["wipe"], None), ([], None),
                           (["take", "wipe", "take"], 1), (["take", "take", "wipe", "wipe"], None)):
            for kind in ("day", "off"):
                self.assertEqual(play(Plan((), [Rule(kind, [], deeds)]), [kind, "come 1"]).own, own)
        for kind, deeds in product(("day", "off"), (["take", "wipe"], ["wipe", "take"], ["take"], ["wipe"], [])):
            plan = Plan((), [Rule(kind, ["not own"], ["take"]), Rule(kind, [], deeds)])
            played = play(plan, [kind, kind, "come 1", "come 2"])
            self.assertEqual(played.own, 1 if not deeds else 2 if deeds[-1] == "take" else None)
        for deeds, whole, own in ((["take"], 1, 2), (["wipe", "take"], 1, None), (["take", "wipe"], 1, None),
                                  (["wipe"], None, None), ([], None, 2)):
            for kind in ("ask", "stop"):
                plan = Plan((), [Rule(kind, [], deeds), Rule("day", [], ["take"])])
                played = play(plan, [kind, "day", "come 2", "come 1"])
                self.assertEqual((played.whole, played.own), (whole, own), (kind, deeds))

    def test_deeds_keep_an_own_part_that_they_do_not_name(self):
        plan = Plan.read("raise\non day do take\non off")
        self.assertEqual(play(plan, ["day", "off", "come 1", "come 2"]).own, 1)

    def test_first_rule_whose_tests_hold(self):
        plan = Plan.read("raise\non ask if whole and own do wipe\non ask if whole\non ask do take\non ask do wipe\n"
                         "on day do take")
        played = play(plan, ["day", "come 0", "come 0", "come 1", "come 0", "come 0"])
        self.assertEqual(played.rules, (None, 2, 1, 4, 0, 1))

    def test_all_tests_hold_ahead_of_the_deeds(self):
        plan = Plan.read("raise\non day if not own do take then wipe then take\non day if own do wipe")
        self.assertEqual(play(plan, ["day", "come 1", "come 1", "come 1"]).rules, (None, 0, 1, 0))

    def test_no_rule(self):
        for kind in LETTERS:
            others = Plan((), [Rule(other, [], ["take"]) for other in LETTERS if other != kind])
            played = play(others, [kind, "come 1"])
            self.assertEqual((played.rules, played.shows), ((None, None), (None, None, None)))


class Tests(unittest.TestCase):
    """Which tests hold of a letter that comes, by how it stands to the part."""

    HOLD = {
        "nothing": (), "above": ("", "above", "later"), "later": ("", "level", "later"), "level": ("", "level"),
        "below": ("",),
    }

    def done(self, raises, test, part, kind, weaving):
        """Whether the rule of this kind with this test is done in the end; other letters are taken."""
        plan = Plan(raises, [Rule(kind, [part, test])] + [Rule(other, [], ["take"]) for other in LETTERS])
        return play(plan, weaving).rules[-1] == 0

    def check(self, raises, part, kind, how, weaving):
        for word in ("", "above", "level", "later"):
            test = f"{word} {part}".strip()
            self.assertEqual(self.done(raises, test, part, kind, weaving), word in self.HOLD[how], (test, how))
            denied = how != "nothing" and word not in self.HOLD[how]
            self.assertEqual(self.done(raises, f"not {test}", part, kind, weaving), denied, (test, how))

    def test_of_the_whole_part(self):
        for kind in LETTERS:
            self.check([], "whole", kind, "nothing", [kind, "come 1"])
            self.check([kind], "whole", kind, "above", [kind, "come 0", "come 1"])
            self.check([], "whole", kind, "later", [kind, "come 0", "come 1"])
            self.check(["stop"], "whole", kind, "below", [kind, "stop", "come 2", "come 1"])
            self.check([], "whole", kind, "level", [kind, "stop", "come 2", "come 1"])
        for kind in ("ask", "stop"):
            self.check([], "whole", kind, "level", [kind, "come 1", "come 1"])

    def test_of_the_own_part(self):
        for kind in LETTERS:
            self.check([], "own", kind, "nothing", [kind, "come 0", "come 1"])
            self.check([kind], "own", kind, "above", ["day", kind, "come 1", "come 2"])
            self.check([], "own", kind, "later", ["day", kind, "come 1", "come 2"])
            self.check(["off"], "own", kind, "below", [kind, "off", "come 2", "come 1"])
            self.check([], "own", kind, "level", [kind, "off", "come 2", "come 1"])
        for kind in ("day", "off"):
            self.check([], "own", kind, "level", [kind, "come 1", "come 1"])

    def test_numbers_raised_for_other_days(self):
        for deed in ("other day", "other off"):
            kind = deed.split(" ")[1]
            self.check([kind], "whole", "ask", "above", [deed, "ask", "come 0", "come 2"])
            self.check([], "whole", "ask", "later", [deed, "ask", "come 0", "come 2"])

    def test_not_of_no_part(self):
        for test in LETTER_TESTS:
            plan = Plan((), [Rule("ask", [test])])
            self.assertEqual(play(plan, ["come 0"]).rules, (0 if test.startswith("not ") else None,))

    def test_all_of_several_tests(self):
        plan = Plan.read("raise\non stop if whole and later whole and not own\non ask do take\non day do take")
        self.assertEqual(play(plan, ["stop", "come 0", "come 1"]).rules[-1], 0)
        self.assertIsNone(play(plan, ["stop", "come 1"]).rules[-1])
        self.assertIsNone(play(plan, ["stop", "day", "come 2", "come 0", "come 1"]).rules[-1])


class Answers(unittest.TestCase):
    COUNT = Plan.read(f"raise ask day\n{TAKE}\non answer do count")

    def test_answers_are_numbered_and_heard_in_any_order_and_twice(self):
        weaving = ["come 0", "answer", "day", "come 1", "answer", "answer", "heard 2", "heard 0", "heard 0", "heard 1"]
        played = play(self.COUNT, weaving)
        self.assertEqual((played.answers, played.counted), ((0, 1, 1), 1))
        self.assertEqual(played.rules[-4:], (4, 4, 4, 4))
        for many, counted in ((7, 2), (8, 0), (9, 0), (10, 1)):
            self.assertEqual(play(self.COUNT, weaving[:many]).counted, counted)

    def test_only_ask_and_day_are_answered(self):
        for kind in LETTERS:
            found = refusal(play, TAKING, [kind, "come 1", "answer"])
            self.assertEqual(found, None if kind in ("ask", "day") else wrong(2))
        self.assertEqual(refusal(play, TAKING, ["answer"]), wrong(0))
        self.assertEqual(play(TAKING, ["day", "come 0", "come 1", "answer"]).answers, (1,))

    def test_deeds_set_the_counted_answer_aside(self):
        for deed in DEEDS:
            played = play(self.COUNT, ["come 0", "answer", "heard 0", deed])
            self.assertEqual(played.counted, 0 if deed.startswith("other") else None, deed)
            again = play(self.COUNT, ["come 0", "answer", "heard 0", deed, "heard 0"])
            self.assertEqual(again.counted, 0)

    def test_level_is_about_the_letter_sent_last(self):
        plan = Plan.read(f"raise day\n{TAKE}\non answer if level do count\non answer if not level")
        for deeds, rule in (([], 4), (["ask"], 4), (["other off"], 4), (["stop", "off"], 4), (["day"], 5),
                            (["other day"], 5), (["other day", "off"], 5)):
            played = play(plan, ["come 0", "answer"] + deeds + ["heard 0"])
            self.assertEqual((played.rules[-1], played.counted), (rule, 0 if rule == 4 else None), deeds)

    def test_level_asks_for_the_letter_that_was_answered(self):
        plan = Plan.read(f"raise day\n{TAKE}\non answer if level do count")
        played = play(plan, ["come 0", "answer", "day", "come 1", "answer", "heard 0", "heard 1"])
        self.assertEqual((played.rules[-2:], played.counted), ((None, 4), 1))

    def test_drop_and_none(self):
        plan = Plan.read(f"raise day\n{TAKE}\non answer if level do count\non answer do drop")
        weaving = ["come 0", "answer", "heard 0", "other day", "heard 0"]
        self.assertEqual(play(plan, weaving[:4]).counted, 0)
        self.assertIsNone(play(plan, weaving).counted)
        plan = Plan.read(f"raise day\n{TAKE}\non answer if level do count\non answer")
        self.assertEqual(play(plan, weaving).counted, 0)
        for deeds, counted in ((["count", "drop"], None), (["drop", "count"], 0), (["drop"], None), ([], None)):
            plan = Plan((), [Rule("ask", [], ["take"]), Rule("answer", [], deeds)])
            self.assertEqual(play(plan, ["come 0", "answer", "heard 0"]).counted, counted)

    def test_no_rule_for_answers(self):
        played = play(LOOSE, ["come 0", "answer", "heard 0"])
        self.assertEqual((played.answers, played.counted, played.rules), ((0,), None, (0, None, None)))


class Goals(unittest.TestCase):
    COUNT = f"raise day\n{TAKE}\non answer do count"
    LEVEL = f"raise day\n{TAKE}\non answer if level do count\non answer do drop"

    def check(self, goal, text, comes, near):
        plan = Plan.read(text)
        self.assertIn(goal, play(plan, comes).goals, comes)
        self.assertNotIn(goal, play(plan, comes[:-1]).goals, comes)
        # Behind one of its events is enough: what comes later takes no goal away.
        self.assertIn(goal, play(plan, comes + ["ask", "come 0"]).goals)
        for weaving in near:
            self.assertNotIn(goal, play(plan, weaving).goals, weaving)

    def test_elder(self):
        take = f"raise\n{TAKE}"
        self.check("elder", take, ["ask", "come 1", "come 0"], [["ask", "come 0"], ["ask", "come 0", "come 1"]])
        self.check("elder", take, ["day", "ask", "come 1", "come 2"], [["day", "ask", "come 2", "other day", "come 2"]])
        self.check("elder", "raise\non ask do take", ["stop", "come 1"], [["stop"], ["stop", "come 0"]])
        self.check("elder", "raise\non day do take then wipe", ["day", "come 1"], [["day", "other off"]])
        self.check("elder", take, ["day", "come 1", "off", "come 2", "come 1"], [["day", "come 1", "off"]])

    def test_lost(self):
        take = f"raise\n{TAKE}"
        self.check("lost", take, ["day", "day", "come 2", "come 1"], [["day", "day", "come 1", "come 2"]])
        wipe = "raise\non ask do take then wipe\non day do take\non off do wipe"
        self.check("lost", wipe, ["day", "come 1", "come 0"], [["day", "come 0", "come 1"], ["day", "come 0"]])
        self.check("lost", wipe, ["off", "day", "come 2", "come 1"], [["off", "day", "come 1", "come 2"],
                   ["off", "day", "come 2"], ["day", "off", "come 1", "come 2"], ["day", "come 1", "ask", "come 2"]])
        self.check("lost", wipe, ["day", "other off", "come 1", "come 0"], [["day", "come 1", "other off"]])
        late = "raise\non day if not own and whole do take\non ask do take then wipe"
        self.check("lost", late, ["day", "come 0", "come 1", "come 0"], [["day", "come 1", "come 0"]])

    def test_back(self):
        take = f"raise\n{TAKE}"
        self.check("back", take, ["stop", "come 1", "come 0"], [["stop", "come 0", "come 1"], ["stop", "come 1"]])
        self.check("back", take, ["day", "off", "come 2", "come 1"], [["off", "day", "come 1", "come 2"]])
        self.check("back", take, ["day", "stop", "come 2", "come 1"], [["day", "stop", "come 1", "come 2"]])
        self.check("back", take, ["off", "stop", "come 1", "come 2", "day", "come 3", "stop", "come 4", "off", "come 5",
                                  "come 3"], [["stop", "come 1", "ask", "come 2"], ["off", "come 1", "day", "come 2"]])
        # A stop that came, but was not shown, does not count.
        self.check("back", "raise\non ask do take\non off do take then wipe\non stop do take",
                   ["stop", "come 1", "come 0"], [["off", "come 1", "come 0"]])
        self.check("back", f"raise\n{TAKE}", ["day", "come 1", "stop", "come 2", "off", "come 3", "come 1"],
                   [["day", "come 1", "stop", "come 2", "come 0"]])

    def test_wrong(self):
        answered = ["come 0", "answer"]
        self.check("wrong", self.COUNT, answered + ["day", "heard 0"],
                   [answered + ["heard 0"], answered + ["day"], answered + ["other day", "heard 0"],
                    answered + ["heard 0", "day"], answered + ["heard 0", "other day", "other off"]])
        self.check("wrong", self.LEVEL, answered + ["ask", "heard 0"], [answered + ["day", "heard 0"]])
        self.check("wrong", self.COUNT, ["ask"] + answered + ["heard 0"], [["ask", "come 1", "answer", "heard 0"]])

    def test_deaf(self):
        answered = ["come 0", "answer"]
        self.check("deaf", self.LEVEL, answered + ["other day", "heard 0"],
                   [answered + ["heard 0"], answered + ["other off", "heard 0"], answered + ["day", "heard 0"]])
        self.check("deaf", f"raise\n{TAKE}", answered + ["heard 0"], [answered, answered + ["day", "heard 0"]])
        keep = f"raise day\n{TAKE}\non answer if level do count"
        self.check("deaf", keep, answered + ["answer", "other day", "heard 1"],
                   [answered + ["heard 0", "answer", "other day", "heard 1", "heard 0"]])

    def test_two_in_one_weaving(self):
        played = play(Plan.read(self.COUNT), ["stop", "come 1", "come 0", "answer", "heard 0"])
        self.assertEqual(played.goals, ("back", "elder", "wrong"))


class WrongWeavings(unittest.TestCase):
    START = ["other day", "day", "come 0", "answer"]

    def test_no_sequence(self):
        for value in no_sequences():
            self.assertEqual(refusal(play, WISE, value), wrong(0), value)

    def test_items_of_any_value(self):
        for value in any_values():
            good = isinstance(value, str) and value in DEEDS + ("answer",)
            for weaving in (self.START + [value], self.START + [value, "x"], tuple(self.START) + (value,)):
                expected = wrong(5) if good and len(weaving) == 6 else None if good else wrong(4)
                self.assertEqual(refusal(play, TAKING, weaving), expected, value)
            self.assertEqual(refusal(play, TAKING, [value, "day"]), None if good and value in DEEDS else wrong(0))

    def test_events_that_are_none(self):
        numbers = ["", "-1", "+0", "00", "01", "0 ", " 0", "0x0", "1_0", "0.0", "a", "\u00b2", "\u0660", "9" * 5000, "0\n"]
        events = ["come", "heard", "Come 0", "come0", "come  0", " come 0", "comes 0", "Answer", "answer 0", "answers",
                  "other", "other ask", "other stop", "otherday", "other  day", "day 0", "0", "1", "heard0", "other come 0", "asks"]
        for event in events + [f"{word} {number}" for word in ("come", "heard") for number in numbers]:
            self.assertEqual(refusal(play, TAKING, self.START + [event]), wrong(4), event)

    def test_letters_and_answers_that_are_not_there(self):
        for event, good in (("come 0", True), ("come 1", False), ("come 2", True), ("come 3", False), ("come 10", False),
                            ("heard 0", True), ("heard 1", False), ("heard 10", False)):
            self.assertEqual(refusal(play, TAKING, self.START + [event]), None if good else wrong(4), event)
        self.assertEqual(refusal(play, TAKING, ["come 1", "ask"]), wrong(0))
        self.assertEqual(refusal(play, TAKING, ["heard 0"]), wrong(0))
        self.assertEqual(refusal(play, TAKING, ["other off", "come 1"]), wrong(1))
        many = ["ask"] * 12
        self.assertEqual(play(TAKING, many + ["come 12", "come 10"]).whole, 10)
        for event in ("come 13", "come 01", "come 00", "come +1", "come \u0661", "come 1 ", "heard 00"):
            self.assertEqual(refusal(play, TAKING, many + [event]), wrong(12))

    def test_the_first_wrong_event(self):
        self.assertEqual(refusal(play, TAKING, ["day", "come 2", None, "answer"]), wrong(1))
        self.assertEqual(refusal(play, TAKING, ["stop", "come 1", "answer", "x"]), wrong(2))


class All(unittest.TestCase):
    def test_made_up_weavings(self):
        random = Random(5)
        come_to = set()
        for plan in made_up(50, 80) + [careful(), LOOSE, TAKING, WISE]:
            for many in (3, 8, 13, 20, 40):
                weaving = made_up_weaving(random, many)
                expected = told(plan, weaving)
                while isinstance(expected, int):
                    self.assertEqual(refusal(play, plan, weaving), wrong(expected), weaving)
                    weaving.pop(expected)
                    expected = told(plan, weaving)
                self.assertEqual(vars(play(plan, weaving)), expected, (str(plan), weaving))
                come_to.update(expected["goals"])
        self.assertEqual(come_to, set(GOALS))

    def test_40_events_and_more(self):
        for many in (40, 400):
            weaving = (["day", "come 1", "answer", "heard 0", "other off"] * many)[:many]
            played = play(careful(), weaving)
            self.assertEqual((len(played.shows), len(played.rules)), (many + 1, many))
            self.assertEqual(vars(played), told(careful(), weaving))

    def test_arguments_stay_and_may_change_later(self):
        weaving = ["day", "come 1", "answer"]
        played = play(TAKING, weaving)
        self.assertEqual(weaving, ["day", "come 1", "answer"])
        weaving.append("ask")
        self.assertEqual((len(played.letters), played.answers), (2, (1,)))
        self.assertEqual(vars(play(plan=TAKING, weaving=("day", "come 1", "answer"))), vars(played))
        self.assertEqual(str(TAKING), f"raise\n{TAKE}\non answer do count")

    def test_not_iterable(self):
        with self.assertRaises(TypeError):
            list(play(TAKING, []))


if __name__ == "__main__":
    unittest.main()
