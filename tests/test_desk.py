"""Promises [26] and [27], and [1] to [3] where they are about desks."""

import re
import unittest
from random import Random
from unittest.mock import patch

from overtaken.deciding import goals, happens, weaving
from overtaken.desk import Desk
from overtaken.errors import InvalidCommand, InvalidText, Refused
from overtaken.needs import least_raises
from overtaken.plans import Plan
from overtaken.post import Post
from overtaken.weavings import play
from tests.guest import length
from tests.made import GOALS, LOOSE, TAKING, WISE, made_up
from tests.office import GUESTS, Office, any_deed, everything
from tests.texts import changed
from tests.values import any_values, refusal

WORD, NUMBER, GOAL = "[^ \n]+", "(0|[1-9][0-9]{0,3})", f"({'|'.join(GOALS)})"
FORM = re.compile(
    f"plan( {WORD})+|post [1-4]|goals|weaving {GOAL}|raises( {GOAL})+|send {WORD}( {NUMBER})?|come {WORD} {NUMBER}|"
    f"shows {WORD} {NUMBER}|undo"
)
COMMANDS = [
    "plan raise ask", "plan raise ; on ask do take", "post 1", "post 4", "goals", "weaving back", "weaving elder",
    "raises lost", "raises back wrong back", "send ask", "send day 0", "come ann 0", "come b 1", "shows ann 0", "undo",
]


def said(plan):
    """The command that lets this plan be kept."""
    return "plan " + str(plan).replace("\n", " ; ")


def desk_of(*commands):
    desk = Desk()
    for command in commands:
        desk.say(command)
    return desk


def state(desk):
    """What can be told of a desk with a post of one day."""
    return desk.post, everything(desk.post, 1), desk.say("goals"), desk.say("weaving back")


class Results(unittest.TestCase):
    def test_at_first(self):
        desk = Desk()
        self.assertIsInstance(desk.post, Post)
        self.assertEqual((desk.post.sent, len(desk.post)), ((("ask", None, 0),), 0))
        self.assertEqual([desk.say("goals"), desk.say("shows ann 0"), desk.say("undo")], ["elder", "nothing", "nothing"])
        self.assertEqual(refusal(desk.say, "shows ann 1"), (Refused, {"word": "day"}))
        self.assertEqual(desk.say("come ann 0"), "done")
        self.assertEqual(desk.say("shows ann 0"), "nothing")

    def test_plan(self):
        desk = Desk()
        self.assertEqual(desk.say("plan raise ask ; on ask do take ; on day do take ; on off do take"), "3")
        self.assertEqual(desk.say("goals"), "back deaf elder lost")
        self.assertEqual(desk.say("plan raise"), "0")
        self.assertEqual(desk.say("goals"), "elder")
        for plan in (WISE, LOOSE, TAKING, Plan(["stop", "day"])):
            self.assertEqual(desk.say(said(plan)), str(len(plan)))
            self.assertEqual(desk.say("goals"), " ".join(goals(plan)))
        self.assertEqual(desk.say("plan raise stop ask"), "0")

    def test_plan_and_post_bring_a_new_post(self):
        for command, days in (("plan raise", 1), ("post 1", 1), ("post 3", 3), (said(TAKING), 1)):
            desk = desk_of(said(TAKING), "post 2", "send stop", "come ann 1")
            before = desk.post
            desk.say(command)
            self.assertIsNot(desk.post, before)
            self.assertEqual((len(desk.post), desk.post.sent), (0, (("ask", None, 0),)))
            self.assertEqual(desk.say(f"shows ann {days - 1}"), "nothing")
            self.assertEqual(refusal(desk.say, f"shows ann {days}"), (Refused, {"word": "day"}))
            self.assertEqual((len(before), before.look("ann", 1)), (2, 1))

    def test_post(self):
        desk = desk_of(said(TAKING))
        for days in (1, 2, 3, 4):
            self.assertEqual(desk.say(f"post {days}"), "done")
            self.assertEqual(desk.say(f"send off {days - 1}"), "1")
            self.assertEqual(refusal(desk.say, f"send off {days}"), (Refused, {"word": "day"}))
            self.assertEqual(desk.say("come ann 1"), "done")
            # It is a post for the plan that is kept.
            self.assertEqual(desk.say(f"shows ann {days - 1}"), "1")

    def test_goals(self):
        self.assertEqual(desk_of("plan raise ; on ask do take ; on stop do wipe").say("goals"), "deaf elder")
        self.assertEqual(desk_of(said(WISE)).say("goals"), "deaf elder")
        self.assertEqual(desk_of(said(TAKING)).say("goals"), "back elder lost wrong")

    def test_no_goals(self):
        # With each plan some goal happens: where the newest letter is always shown, "deaf" or "wrong" does.
        with patch("overtaken.desk.goals", return_value=()):
            self.assertEqual(Desk().say("goals"), "none")

    def test_weaving(self):
        for plan in [Plan(), WISE, LOOSE, TAKING] + made_up(61, 10):
            desk = desk_of(said(plan))
            for goal in GOALS:
                told = desk.say(f"weaving {goal}")
                self.assertEqual(told == "never", not happens(plan, goal))
                if told != "never":
                    events = told.split(", ")
                    self.assertIn(goal, play(plan, events).goals)
                    self.assertEqual(length(events), length(weaving(plan, goal)))
        self.assertEqual(Desk().say("weaving back"), "never")

    def test_raises(self):
        desk = desk_of("plan raise stop ; on stop do take ; on ask if level whole and later whole do take")
        self.assertEqual(desk.say("raises back"), "ask")
        self.assertEqual(desk.say("raises lost"), "nothing")
        self.assertEqual(desk.say("raises elder"), "never")
        self.assertEqual(desk.say("raises back elder"), "never")
        self.assertEqual(desk.say("raises back back lost"), "ask")
        desk.say("plan raise ; on ask if not whole do take ; on stop if level whole and not later whole and level own do "
                 "take then wipe ; on day do take")
        self.assertEqual(desk.say("raises back"), "ask or day stop")
        desk.say("plan raise ; on ask do take ; on answer if level do count")
        self.assertEqual(desk.say("raises wrong"), "ask day off stop")
        desk.say("plan raise ; on off if level whole do take ; on day if level own do take ; on ask do take ; "
                 "on off if later own and level whole do take then wipe")
        self.assertEqual(desk.say("raises back"), "ask day or ask off or day off")

    def test_send_come_shows(self):
        desk = desk_of(said(TAKING), "post 2")
        self.assertEqual([desk.say(command) for command in (
            "send stop", "send day 1", "send off 0", "come ann 1", "come ann 2", "shows ann 0", "shows ann 1",
            "shows b 1", "come b 3", "shows b 0", "shows b 1", "come b 0", "shows b 1",
        )], ["1", "2", "3", "done", "done", "1", "2", "nothing", "done", "3", "nothing", "done", "0"])

    def test_undo(self):
        desk = desk_of(said(TAKING), "send stop", "come ann 1")
        self.assertEqual(desk.say("undo"), "undone")
        self.assertEqual(desk.say("shows ann 0"), "nothing")
        self.assertEqual([desk.say("undo"), desk.say("undo"), desk.say("undo")], ["undone", "nothing", "nothing"])
        self.assertEqual(desk.say("send off 0"), "1")
        self.assertEqual(desk_of(said(TAKING), "send stop", "post 1").say("undo"), "nothing")

    def test_its_post_is_the_one_of_the_commands(self):
        desk = desk_of(said(TAKING), "post 2")
        post = desk.post
        post.send("day", 1)
        self.assertEqual([desk.say("come ann 1"), desk.say("shows ann 1")], ["done", "1"])
        self.assertEqual((post.look("ann", 1), len(post)), (1, 2))
        post.answer("ann", 1)
        self.assertEqual([desk.say("undo"), len(post), desk.say("undo"), post.look("ann", 1)],
                         ["undone", 2, "undone", None])
        with post.trial():
            self.assertEqual(desk.say("send ask"), "2")
        self.assertEqual(len(post.sent), 2)
        self.assertIs(desk.post, post)


class Forms(unittest.TestCase):
    def test_any_values(self):
        desk = desk_of(said(LOOSE), "send stop")
        before = state(desk)
        for value in any_values() + [["goals"], ("goals",), [["goals"]]]:
            self.assertEqual(refusal(desk.say, value), (InvalidCommand, {}), value)
        self.assertEqual(state(desk), before)

    def test_no_form(self):
        desk = desk_of(said(LOOSE), "post 2", "send day 1", "come ann 1")
        before = desk.post, everything(desk.post, 2)
        for command in [
            "", " ", "plan", "plan ", "plan  raise", "plan raise ;  on ask", "plan raise\non ask", "plan raise ", " goals",
            "goals ", "goals\n", "\ngoals", "goals back", "Goals", "goal", "post", "post 0", "post 5", "post 01", "post 10",
            "post 1 ", "post 1 1", "post one", "post -1", "post +1", "post 1.0", "post \u0661", "weaving", "weaving all",
            "weaving Back", "weaving back lost", "weaving never", "raises", "raises all", "raises back all",
            "raises all back", "raises back  lost", "raises nothing", "send", "send day x", "send day -1", "send day 00",
            "send day 01", "send day 10000", "send day 1 1", "send day None", "send day \u0661", "send ask  1",
            "come", "come ann", "come ann x", "come ann 0 0", "come ann 00", "come ann 12345", "come 0 ann", "come ann -1",
            "come  ann 0", "shows", "shows ann", "shows ann x", "shows ann 01", "shows ann 0 0", "shows ann 99999",
            "undo 1", "undo ", "Undo", "undo undo", "look ann 0", "hand ann 0 b", "answer ann 0", "heard 0", "post 2\n",
            "come ann 1\n", "come an\nn 1", "send ask\n", "raises\tback", "come ann \u00b2", "come ann 1_0", "come ann 1e2",
        ]:
            self.assertIsNone(FORM.fullmatch(command), command)
            self.assertEqual(refusal(desk.say, command), (InvalidCommand, {}), command)
        self.assertEqual((desk.post, everything(desk.post, 2)), before)

    def test_commands_with_a_fault(self):
        seen = set()
        for command in COMMANDS:
            for text in set(changed(command)):
                desk = desk_of(said(LOOSE))
                refused = refusal(desk.say, text)
                expected = FORM.fullmatch(text) is None
                self.assertEqual(refused == (InvalidCommand, {}), expected, repr(text))
                seen.add(None if refused is None else refused[0])
        self.assertEqual(seen, {None, InvalidCommand, InvalidText, Refused})

    def test_numbers(self):
        desk = desk_of(said(TAKING))
        for number in ("1", "10", "999", "9999"):
            self.assertEqual(refusal(desk.say, f"come ann {number}"), (Refused, {"word": "place"}))
            self.assertEqual(refusal(desk.say, f"send day {number}"), (Refused, {"word": "day"}))
            self.assertEqual(refusal(desk.say, f"shows ann {number}"), (Refused, {"word": "day"}))


class Errors(unittest.TestCase):
    def check(self, desk, command, error, **told):
        before = state(desk)
        self.assertEqual(refusal(desk.say, command), (error, told), command)
        self.assertEqual(state(desk), before)

    def test_of_texts(self):
        desk = desk_of(said(LOOSE), "send stop", "come ann 1")
        for text, at in (
            ("ask", 0), ("raise ask ask", 0), ("raise answer", 0), ("rise", 0), (";", 0), ("; raise", 0), ("raise ;", 0),
            ("raise ; ; on ask", 1), ("raise ; on ask ;", 1), ("raise ; on ask ; on", 2), ("raise ; on ask do tkae", 1),
            ("raise ; on ask ; on day do count ; on", 2), ("raise; on ask", 0), ("raise ask; ; on ask", 0),
            ("raise ; on ask; on day", 1), ("raise ; on answer if whole", 1), ("raise ; ; ; on ask", 1),
        ):
            self.check(desk, f"plan {text}", InvalidText, at=at)

    def test_of_the_post(self):
        desk = desk_of(said(LOOSE), "send stop", "come ann 0")
        for command, word in (
            ("send answer", "kind"), ("send x 0", "kind"), ("send x 9", "kind"), ("send Ask", "kind"), ("send day", "day"),
            ("send off 1", "day"), ("send ask 0", "day"), ("send stop 0", "day"), ("come Ann 0", "guest"),
            ("come annie 9", "guest"), ("come ann2 0", "guest"), ("come 0 0", "guest"), ("come b 2", "place"),
            ("come b 9999", "place"), ("shows Ann 0", "guest"), ("shows annie 9", "guest"), ("shows ann 1", "day"),
        ):
            self.check(desk, command, Refused, word=word)

    def test_the_form_is_asked_first(self):
        desk = Desk()
        for command in ("send x y", "come Ann x", "come Ann 00", "shows Ann -1", "plan ask  x", "plan ask\n", "send x 1 2"):
            self.check(desk, command, InvalidCommand)


class AnyCommands(unittest.TestCase):
    def test_beside_an_office(self):
        random = Random(62)
        for plan in [TAKING, LOOSE, WISE] + made_up(63, 10):
            days = random.randint(1, 4)
            desk, office = desk_of(said(plan), f"post {days}"), Office(plan, days)
            for _ in range(80):
                name, args = any_deed(random, office)
                if random.random() < 0.1:
                    self.assertEqual(desk.say("undo"), "undone" if office.undo() else "nothing")
                elif name not in ("send", "come"):
                    guest, day = random.choice(GUESTS), random.randrange(days)
                    place = office.shown(guest, day)
                    self.assertEqual(desk.say(f"shows {guest} {day}"), "nothing" if place is None else str(place))
                else:
                    command = " ".join([name] + [str(arg) for arg in args if arg is not None])
                    word = office.word_for(name, args)
                    if word is None:
                        result = office.do(name, args)
                        self.assertEqual(desk.say(command), "done" if result is None else str(result))
                    else:
                        self.assertEqual(refusal(desk.say, command), (Refused, {"word": word}))
            self.assertEqual(everything(desk.post, days), office.everything())

    def test_as_the_functions_tell(self):
        for plan in made_up(64, 12):
            desk = desk_of(said(plan))
            self.assertEqual(desk.say("goals"), " ".join(goals(plan)) if goals(plan) else "none")
            for wanted in (["back"], ["lost", "deaf"], list(GOALS)):
                sets = [" ".join(kinds) if kinds else "nothing" for kinds in least_raises(plan, wanted)]
                self.assertEqual(desk.say("raises " + " ".join(wanted)), " or ".join(sets) if sets else "never")

    def test_two_desks_by_turns(self):
        first, second = Desk(), Desk()
        self.assertIsNot(first.post, second.post)
        rows = [(first, said(TAKING), "5"), (second, said(WISE), "4"), (first, "send day 0", "1"), (second, "undo", "nothing"),
                (second, "send stop", "1"), (first, "come a 1", "done"), (second, "come a 1", "done"),
                (first, "undo", "undone"), (second, "shows a 0", "1"), (first, "shows a 0", "nothing"),
                (first, "goals", "back elder lost wrong"), (second, "goals", "deaf elder")]
        for desk, command, result in rows:
            self.assertEqual(desk.say(command), result, command)

    def test_same_command_same_result(self):
        desk = desk_of(said(LOOSE), "send day 0", "come a 1")
        asked = ["goals", "weaving back", "weaving wrong", "raises back", "shows a 0", "shows b 0"]
        before = [desk.say(command) for command in asked]
        self.assertEqual([desk.say(command=command) for command in asked], before)
        self.assertEqual(len(desk.post), 2)

    def test_not_iterable(self):
        with self.assertRaises(TypeError):
            iter(Desk())

    def test_long_plans(self):
        plan = Plan.read("\n".join(["raise ask day off stop"] + [
            "on ask if not above whole and not level whole and not later whole and not above own "
            "do take then wipe then take then wipe"
        ] * 8))
        desk = desk_of(said(plan))
        self.assertGreater(len(said(plan)), 1000)
        self.assertEqual(desk.say("goals"), " ".join(goals(plan)))


if __name__ == "__main__":
    unittest.main()
