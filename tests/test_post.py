"""Promises [23] to [25], and [1] to [3] where they are about posts."""

import unittest
from random import Random

from overtaken.errors import Refused
from overtaken.plans import Plan
from overtaken.post import Post
from overtaken.weavings import play
from tests.made import LOOSE, TAKING, WISE, careful, made_up, nearly_careful
from tests.office import GUESTS, Office, any_deed, everything
from tests.values import any_values, refusal

COUNTING = Plan.read("raise ask day\non ask do take\non day do take\non stop do take\n"
                     "on answer if level do count\non answer do drop")
NO_NAMES = ["", "annie", "Ann", "ANN", "a b", "a1", "an\n", " ann", "ann ", "a.b", "_", "\u00e4", "\u00df", "\u0131"]
NO_NAMES += [value for value in any_values() if not isinstance(value, str)]


def post_of(plan, days, *deeds):
    """A post for which these deeds were done; each is the name of a method and its arguments."""
    post = Post(plan, days)
    for name, *args in deeds:
        getattr(post, name)(*args)
    return post


class Letters(unittest.TestCase):
    def test_at_first(self):
        for days in (1, 2, 3, 4):
            post = Post(LOOSE, days)
            self.assertEqual((post.sent, len(post)), ((("ask", None, 0),), 0))
            self.assertEqual(everything(post, days), Office(LOOSE, days).everything())

    def test_send(self):
        post = Post(LOOSE, 3)
        self.assertEqual([post.send("day", 2), post.send("ask"), post.send("stop"), post.send("off", 0)], [1, 2, 3, 4])
        self.assertEqual(post.send("ask", None), 5)
        self.assertEqual(post.sent, (
            ("ask", None, 0), ("day", 2, 0), ("ask", None, 1), ("stop", None, 1), ("off", 0, 1), ("ask", None, 2),
        ))
        self.assertEqual(len(post), 5)

    def test_numbers(self):
        for raises in ((), ("day",), ("ask", "off"), ("ask", "day", "off", "stop")):
            post = Post(LOOSE.raising(raises), 2)
            number = 0
            for kind, day in (("stop", None), ("day", 0), ("day", 1), ("off", 1), ("ask", None), ("off", 0)):
                place = post.send(kind, day)
                number += kind in raises
                self.assertEqual(post.sent[place], (kind, day, number))

    def test_come(self):
        post = post_of(TAKING, 3, ("send", "day", 1), ("send", "stop"), ("send", "off", 2))
        self.assertIsNone(post.come("ann", 1))
        self.assertEqual([post.look("ann", day) for day in range(3)], [None, 1, None])
        post.come("ann", 2)
        self.assertEqual([post.look("ann", day) for day in range(3)], [2, 1, 2])
        post.come("ann", 3)
        self.assertEqual([post.look("ann", day) for day in range(3)], [2, 1, 3])
        self.assertEqual([post.look("b", day) for day in range(3)], [None, None, None])
        post.come("b", 0)
        self.assertEqual([post.look("b", day) for day in range(3)], [0, 0, 0])
        self.assertEqual([post.look("ann", day) for day in range(3)], [2, 1, 3])

    def test_come_again_and_in_any_order(self):
        post = post_of(WISE, 1, ("send", "stop"), ("come", "a", 1), ("come", "a", 0), ("come", "a", 0))
        self.assertEqual((post.look("a", 0), len(post)), (1, 4))
        self.assertEqual(post.weaving_for("a", 0), ("stop", "come 1", "come 0", "come 0"))

    def test_hand(self):
        post = post_of(TAKING, 2, ("send", "day", 1), ("come", "ann", 0), ("come", "ann", 1))
        self.assertIsNone(post.hand("ann", 1, "b"))
        self.assertEqual([post.look("b", 0), post.look("b", 1)], [None, 1])
        post.hand("ann", 0, "cyd")
        self.assertEqual([post.look("cyd", 0), post.look("cyd", 1)], [0, 0])
        self.assertEqual(post.weaving_for("cyd", 1), ("day", "come 0"))
        post.hand("ann", 1, "ann")
        self.assertEqual(post.weaving_for("ann", 1), ("day", "come 0", "come 1", "come 1"))
        self.assertEqual(post.weaving_for("ann", 0), ("other day", "come 0"))
        self.assertEqual(len(post), 6)


class Answers(unittest.TestCase):
    def test_numbered_through(self):
        post = post_of(COUNTING, 2, ("come", "ann", 0), ("come", "b", 0))
        self.assertEqual([post.answer("ann", 0), post.answer("b", 1), post.answer("ann", 1), post.answer("ann", 0)],
                         [0, 1, 2, 3])
        self.assertEqual(post.counted_for("ann", 0), None)
        self.assertIsNone(post.heard(3))
        self.assertEqual([post.counted_for("ann", 0), post.counted_for("ann", 1), post.counted_for("b", 1)],
                         [3, None, None])
        post.heard(1)
        post.heard(2)
        self.assertEqual([post.counted_for("ann", 0), post.counted_for("ann", 1), post.counted_for("b", 1)], [3, 2, 1])
        post.heard(0)
        self.assertEqual([post.counted_for("ann", 0), post.counted_for("b", 0)], [0, None])
        self.assertEqual(post.weaving_for("ann", 0), ("come 0", "answer", "answer", "heard 1", "heard 0"))
        self.assertEqual(post.weaving_for("ann", 1), ("come 0", "answer", "heard 0"))

    def test_set_aside(self):
        answered = [(deed, guest, *more) for guest in ("ann", "b") for deed, *more in (("come", 0), ("answer", 0))]
        answered += [("answer", "ann", 1), ("heard", 0), ("heard", 1), ("heard", 2)]
        pairs = (("ann", 0), ("b", 0), ("ann", 1))
        for kind, day, expected in (("ask", None, [None] * 3), ("stop", None, [None] * 3), ("day", 0, [None, None, 2]),
                                    ("off", 0, [None, None, 2]), ("day", 1, [0, 1, None]), ("off", 1, [0, 1, None])):
            post = post_of(COUNTING, 2, *answered)
            self.assertEqual([post.counted_for(*pair) for pair in pairs], [0, 1, 2])
            post.send(kind, day)
            self.assertEqual([post.counted_for(*pair) for pair in pairs], expected)

    def test_level_whatever_the_last_letter_is_about(self):
        post = post_of(COUNTING, 2, ("come", "ann", 0), ("answer", "ann", 0), ("heard", 0), ("send", "day", 1))
        self.assertEqual(post.counted_for("ann", 0), 0)
        post.heard(0)
        self.assertEqual((post.counted_for("ann", 0), post.goals_for("ann", 0)), (None, ("deaf",)))

    def test_overtaken(self):
        post = post_of(TAKING, 2, ("come", "ann", 0), ("answer", "ann", 0), ("send", "stop"), ("heard", 0))
        self.assertEqual((post.counted_for("ann", 0), post.goals_for("ann", 0)), (0, ("wrong",)))
        self.assertEqual((post.counted_for("ann", 1), post.goals_for("ann", 1)), (None, ()))
        post.come("ann", 1)
        post.come("ann", 0)
        self.assertEqual(post.goals_for("ann", 0), ("back", "elder", "wrong"))
        self.assertEqual(post.goals_for("ann", 1), ("back", "elder"))

    def test_answers_to_days_of_their_own(self):
        post = post_of(TAKING, 2, ("send", "day", 1), ("come", "ann", 1), ("answer", "ann", 1), ("heard", 0))
        self.assertEqual([post.counted_for("ann", day) for day in (0, 1)], [None, 0])
        self.assertEqual(refusal(post.answer, "ann", 0), (Refused, {"word": "day"}))


class Weavings(unittest.TestCase):
    def test_example(self):
        post = Post(LOOSE, 2)
        self.assertEqual(
            [post.come("ann", 0), post.answer("ann", 1), post.send("day", 1), post.come("ann", 1), post.look("ann", 0),
             post.look("ann", 1)],
            [None, 0, 1, None, 0, 1],
        )
        self.assertEqual(
            (post.weaving_for("ann", 1), post.weaving_for("ann", 0), len(post)),
            (("come 0", "answer", "day", "come 1"), ("come 0", "other day"), 4),
        )

    def test_guests_who_were_never_named(self):
        post = post_of(TAKING, 2, ("send", "day", 1), ("come", "ann", 1), ("send", "off", 0), ("send", "stop"))
        self.assertEqual((post.look("b", 1), post.counted_for("b", 1), post.goals_for("b", 1)), (None, None, ()))
        self.assertEqual(post.weaving_for("b", 1), ("day", "other off", "stop"))
        self.assertEqual(post.weaving_for("b", 0), ("other day", "off", "stop"))
        self.assertEqual(refusal(post.hand, "b", 1, "ann"), (Refused, {"word": "day"}))
        self.assertEqual(refusal(post.answer, "b", 1), (Refused, {"word": "day"}))
        self.assertEqual(len(post), 4)

    def test_letters_sent_ahead_of_the_first_naming(self):
        post = post_of(TAKING, 1, ("send", "off", 0), ("send", "day", 0), ("come", "zoey", 1), ("come", "zoey", 2))
        self.assertEqual(post.weaving_for("zoey", 0), ("off", "day", "come 1", "come 2"))
        self.assertEqual(post.look("zoey", 0), 2)

    def test_weaving_played_tells_what_the_post_does(self):
        random = Random(41)
        for plan in [TAKING, LOOSE, COUNTING, careful()] + made_up(42, 12):
            days = random.randint(1, 4)
            post, office = Post(plan, days), Office(plan, days)
            for _ in range(60):
                name, args = any_deed(random, office)
                if office.word_for(name, args) is None:
                    office.do(name, args)
                    getattr(post, name)(*args)
            for guest in GUESTS:
                for day in range(days):
                    played = play(plan, post.weaving_for(guest, day))
                    self.assertEqual(played.shows[-1], post.look(guest, day))
                    self.assertEqual(played.goals, post.goals_for(guest, day))
                    own = [at for at, row in enumerate(office.now["answers"]) if row[:2] == (guest, day)]
                    expected = None if played.counted is None else own[played.counted]
                    self.assertEqual(post.counted_for(guest, day), expected)
                    kinds = [kind if about in (None, day) else "other" for kind, about, _ in post.sent]
                    numbers = [number for _, _, number in post.sent]
                    self.assertEqual(played.letters, tuple(zip(kinds, numbers)))


class Refusing(unittest.TestCase):
    def check(self, post, days, word, name, *args):
        before = everything(post, days)
        self.assertEqual(refusal(getattr(post, name), *args), (Refused, {"word": word}), (name, args))
        self.assertEqual(everything(post, days), before)

    def test_send(self):
        post = post_of(TAKING, 2, ("send", "day", 1))
        for value in any_values():
            if not (isinstance(value, str) and value in ("ask", "day", "stop", "off")):
                for day in (None, 0, 5, "x"):
                    self.assertEqual(refusal(post.send, value, day), (Refused, {"word": "kind"}), value)
            if value is not None:
                for kind in ("ask", "stop"):
                    self.assertEqual(refusal(post.send, kind, value), (Refused, {"word": "day"}), value)
            if isinstance(value, bool) or value not in (0, 1):
                for kind in ("day", "off"):
                    self.assertEqual(refusal(post.send, kind, value), (Refused, {"word": "day"}), value)
        self.check(post, 2, "kind", "send", "answer")
        self.check(post, 2, "day", "send", "day")
        self.check(post, 2, "day", "send", "off", 2)
        self.check(post, 2, "day", "send", "ask", 0)
        self.assertEqual(len(post), 1)

    def test_come(self):
        post = post_of(TAKING, 2, ("send", "day", 1), ("come", "ann", 0))
        for value in NO_NAMES:
            for place in (0, 7, None):
                self.assertEqual(refusal(post.come, value, place), (Refused, {"word": "guest"}), value)
        for value in any_values() + [-1, 2, 10 ** 30]:
            if isinstance(value, bool) or value not in (0, 1):
                self.assertEqual(refusal(post.come, "b", value), (Refused, {"word": "place"}), value)
        self.check(post, 2, "place", "come", "ann", 2)
        self.check(post, 2, "guest", "come", "annie", 1)
        self.assertEqual(len(post), 2)

    def test_guests_and_days(self):
        post = post_of(TAKING, 2, ("come", "ann", 0), ("answer", "ann", 1))
        before = everything(post, 2)
        for name in ("look", "answer", "counted_for", "weaving_for", "goals_for", "hand"):
            call = getattr(post, name)
            more = ("b",) if name == "hand" else ()
            for value in NO_NAMES:
                for day in (0, 2, None):
                    self.assertEqual(refusal(call, value, day, *more), (Refused, {"word": "guest"}), (name, value))
            for value in any_values() + [-1, -2, 2, 10 ** 30]:
                if isinstance(value, bool) or value not in (0, 1):
                    self.assertEqual(refusal(call, "ann", value, *more), (Refused, {"word": "day"}), (name, value))
        self.assertEqual(everything(post, 2), before)

    def test_hand(self):
        post = post_of(TAKING, 2, ("come", "ann", 0), ("send", "day", 1), ("come", "b", 1))
        for value in NO_NAMES:
            self.assertEqual(refusal(post.hand, "ann", 0, value), (Refused, {"word": "other"}), value)
            # What is shown is asked ahead of the other guest.
            self.assertEqual(refusal(post.hand, "b", 0, value), (Refused, {"word": "day"}), value)
        self.check(post, 2, "day", "hand", "b", 0, "ann")
        self.check(post, 2, "day", "hand", "b", 2, "Ann")
        self.check(post, 2, "guest", "hand", "", 2, "Ann")
        self.check(post, 2, "other", "hand", "b", 1, "five5")
        self.assertEqual(len(post), 3)

    def test_answer(self):
        post = post_of(TAKING, 3, ("send", "stop"), ("send", "off", 1), ("send", "day", 2))
        for place in (1, 2, 3):
            post.come("ann", place)
        self.check(post, 3, "day", "answer", "ann", 0)
        self.check(post, 3, "day", "answer", "ann", 1)
        self.check(post, 3, "day", "answer", "b", 2)
        self.check(post, 3, "guest", "answer", "B", 9)
        self.assertEqual(post.answer("ann", 2), 0)

    def test_heard(self):
        post = post_of(TAKING, 1, ("come", "ann", 0))
        self.check(post, 1, "number", "heard", 0)
        post.answer("ann", 0)
        post.answer("ann", 0)
        for value in any_values() + [-1, -2, 2, 10 ** 30]:
            if isinstance(value, bool) or value not in (0, 1):
                self.check(post, 1, "number", "heard", value)
        post.undo()
        self.check(post, 1, "number", "heard", 1)
        self.assertIsNone(post.heard(0))

    def test_names(self):
        post = Post(TAKING)
        for name in ("a", "z", "ab", "abc", "abcd", "wxyz", "none", "ask"):
            post.come(name, 0)
            self.assertEqual(post.look(name, 0), 0)
            self.assertEqual(post.weaving_for(name, 0), ("come 0",))


class AnyDeeds(unittest.TestCase):
    """Posts beside offices, for any deeds, also ones that are refused or taken back."""

    def go(self, random, post, office, many):
        """Do so many things at both."""
        for _ in range(many):
            if random.random() < 0.12:
                self.assertIs(post.undo(), office.undo())
                continue
            name, args = any_deed(random, office)
            word = office.word_for(name, args)
            if word is not None:
                self.assertEqual(refusal(getattr(post, name), *args), (Refused, {"word": word}), (name, args))
            else:
                self.assertEqual(getattr(post, name)(*args), office.do(name, args), (name, args))

    def test_any_deeds(self):
        random = Random(43)
        for plan in [TAKING, LOOSE, WISE, COUNTING, careful()] + made_up(44, 25) + nearly_careful(45, 10):
            days = random.randint(1, 4)
            post, office = Post(plan, days), Office(plan, days)
            for _ in range(8):
                self.go(random, post, office, 8)
                self.assertEqual(everything(post, days), office.everything())

    def test_all_taken_back(self):
        random = Random(46)
        for plan in [TAKING, COUNTING] + made_up(47, 8):
            days = random.randint(1, 4)
            post, office = Post(plan, days), Office(plan, days)
            self.go(random, post, office, 40)
            while len(post):
                self.assertIs(post.undo(), office.undo())
                self.assertEqual(everything(post, days), office.everything())
            self.assertIs(post.undo(), False)
            self.assertEqual(everything(post, days), Office(plan, days).everything())

    def test_any_deeds_within_blocks(self):
        random = Random(48)
        for plan in [TAKING, COUNTING, careful()] + made_up(49, 12):
            days = random.randint(1, 3)
            post, office = Post(plan, days), Office(plan, days)
            self.go(random, post, office, 12)
            self.nest(random, post, office, 3)
            self.assertEqual(everything(post, days), office.everything())
            while office.undo():
                self.assertIs(post.undo(), True)
                self.assertEqual(everything(post, days), office.everything())
            self.assertIs(post.undo(), False)

    def nest(self, random, post, office, deep):
        now, past = office.now, list(office.past)
        before = everything(post, post.days)
        with post.trial() as inner:
            self.assertIs(inner, post)
            for _ in range(random.choice([0, 0, 3, 20])):
                self.assertIs(post.undo(), office.undo())
            self.go(random, post, office, 8)
            if deep:
                self.nest(random, post, office, deep - 1)
            self.go(random, post, office, 5)
            self.assertEqual(everything(post, post.days), office.everything())
        office.now, office.past = now, past
        self.assertEqual(everything(post, post.days), before)


class TakingBack(unittest.TestCase):
    def test_each_kind_of_deed(self):
        post = post_of(TAKING, 2, ("come", "ann", 0), ("send", "day", 1), ("come", "ann", 1), ("answer", "ann", 1))
        for name, *args in (("send", "stop"), ("send", "off", 0), ("come", "b", 1), ("come", "ann", 0),
                            ("hand", "ann", 1, "b"), ("answer", "ann", 0), ("heard", 0)):
            before = everything(post, 2)
            getattr(post, name)(*args)
            self.assertNotEqual(everything(post, 2), before)
            self.assertEqual(len(post), 5)
            self.assertIs(post.undo(), True)
            self.assertEqual(everything(post, 2), before, name)

    def test_deeds_that_change_nothing_of_a_copy(self):
        post = Post(Plan(), 1)
        post.come("ann", 0)
        post.come("ann", 0)
        self.assertEqual((len(post), post.look("ann", 0)), (2, None))
        self.assertEqual([post.undo(), len(post), post.undo(), len(post), post.undo(), len(post)],
                         [True, 1, True, 0, False, 0])

    def test_refused_deeds_are_not_counted(self):
        post = post_of(TAKING, 1, ("send", "stop"))
        for name, *args in (("send", "day"), ("come", "ann", 2), ("hand", "ann", 0, "b"), ("answer", "ann", 0),
                            ("heard", 0)):
            refusal(getattr(post, name), *args)
        self.assertEqual((len(post), post.undo(), post.undo()), (1, True, False))

    def test_what_is_set_aside_comes_back(self):
        post = post_of(COUNTING, 1, ("come", "a", 0), ("answer", "a", 0), ("heard", 0), ("send", "ask"))
        self.assertIsNone(post.counted_for("a", 0))
        post.undo()
        self.assertEqual((post.counted_for("a", 0), post.sent), (0, (("ask", None, 0),)))

    def test_numbers_are_given_anew(self):
        post = post_of(TAKING, 1, ("send", "stop"), ("come", "a", 0), ("answer", "a", 0))
        post.undo()
        self.assertEqual(post.answer("a", 0), 0)
        for _ in range(3):
            post.undo()
        self.assertEqual((post.send("day", 0), post.sent), (1, (("ask", None, 0), ("day", 0, 0))))


class Blocks(unittest.TestCase):
    def setUp(self):
        self.post = post_of(COUNTING, 2, ("send", "day", 1), ("come", "ann", 0), ("answer", "ann", 0), ("heard", 0))
        self.before = everything(self.post, 2)

    def same(self):
        self.assertEqual(everything(self.post, 2), self.before)

    def test_trial(self):
        with self.post.trial() as inner:
            self.assertIs(inner, self.post)
            self.same()
            inner.send("ask")
            inner.come("b", 2)
            self.assertEqual((len(inner), inner.look("b", 0), inner.counted_for("ann", 0)), (6, 2, None))
        self.same()

    def test_each_one_is_new(self):
        trial = self.post.trial()
        self.assertIsNot(trial, self.post.trial())
        self.assertIsNot(trial, self.post)

    def test_as_it_was_when_the_block_was_entered(self):
        trial = self.post.trial()
        self.post.send("stop")
        with trial:
            self.post.undo()
            self.same()
        self.assertEqual((len(self.post), self.post.sent[-1]), (5, ("stop", None, 1)))
        self.post.undo()
        self.same()

    def test_left_by_an_error(self):
        for error in (KeyError("x"), Refused("guest"), StopIteration(), KeyboardInterrupt()):
            with self.assertRaises(error.__class__) as caught:
                with self.post.trial() as inner:
                    inner.send("ask")
                    raise error
            self.assertIs(caught.exception, error)
            self.same()

    def test_left_by_a_refusal(self):
        with self.assertRaises(Refused) as caught:
            with self.post.trial() as inner:
                inner.come("b", 1)
                inner.come("b", 7)
        self.assertEqual(caught.exception.word, "place")
        self.same()

    def test_left_by_return(self):
        def look():
            with self.post.trial() as inner:
                inner.send("stop")
                return inner.sent[-1]
        self.assertEqual(look(), ("stop", None, 1))
        self.same()

    def test_deeds_from_ahead_of_the_block_taken_back(self):
        with self.post.trial() as inner:
            self.assertEqual([inner.undo() for _ in range(6)], [True] * 4 + [False] * 2)
            self.assertEqual(everything(inner, 2), everything(Post(COUNTING, 2), 2))
            inner.send("stop")
        self.same()
        states = []
        while len(self.post):
            states.append(everything(self.post, 2))
            self.post.undo()
        again = post_of(COUNTING, 2, ("send", "day", 1), ("come", "ann", 0), ("answer", "ann", 0), ("heard", 0))
        for state in states:
            self.assertEqual(everything(again, 2), state)
            again.undo()

    def test_one_within_another(self):
        with self.post.trial() as outer:
            outer.send("off", 0)
            middle = everything(outer, 2)
            with outer.trial() as inner:
                inner.undo()
                inner.undo()
                inner.come("b", 0)
            self.assertEqual(everything(outer, 2), middle)
            with self.assertRaises(ZeroDivisionError):
                with outer.trial():
                    outer.undo()
                    raise ZeroDivisionError()
            self.assertEqual(everything(outer, 2), middle)
            outer.undo()
            outer.undo()
        self.same()

    def test_within(self):
        def work(post):
            self.assertIs(post, self.post)
            post.send("ask")
            post.undo()
            post.undo()
            return post, post.counted_for("ann", 0), post.within(len), post.within(lambda inner: inner.send("stop"))
        self.assertEqual(self.post.within(work), (self.post, None, 3, 2))
        self.same()
        self.assertIsNone(self.post.within(lambda post: None))
        marker = object()
        self.assertIs(self.post.within(work=lambda post: marker), marker)
        self.same()

    def test_within_left_by_an_error(self):
        def work(post):
            post.send("ask")
            post.heard(5)
        self.assertEqual(refusal(self.post.within, work), (Refused, {"word": "number"}))
        self.same()

    def test_work_goes_on_behind_a_block(self):
        with self.post.trial() as inner:
            inner.send("ask")
        self.assertEqual(self.post.send("stop"), 2)
        self.assertEqual((len(self.post), self.post.undo()), (5, True))
        self.same()


class Objects(unittest.TestCase):
    def test_by_name(self):
        post = Post(plan=TAKING, days=2)
        self.assertEqual(post.send(kind="day", day=1), 1)
        post.come(guest="ann", place=1)
        post.hand(guest="ann", day=1, other="b")
        self.assertEqual(post.answer(guest="b", day=1), 0)
        post.heard(number=0)
        self.assertEqual((post.look(guest="b", day=1), post.counted_for(guest="b", day=1)), (1, 0))
        self.assertEqual(post.weaving_for(guest="b", day=1), ("day", "come 1", "answer", "heard 0"))
        self.assertEqual(post.goals_for(guest="b", day=1), ())
        self.assertEqual(len(Post(TAKING)), 0)
        self.assertEqual(refusal(Post(TAKING).look, "a", 1), (Refused, {"word": "day"}))

    def test_not_iterable(self):
        post = Post(TAKING)
        for thing in (post, post.trial()):
            with self.assertRaises(TypeError):
                iter(thing)
            with self.assertRaises(TypeError):
                list(thing)

    def test_sent_is_only_read(self):
        post = Post(TAKING)
        with self.assertRaises(AttributeError):
            post.sent = ()

    def test_asking_changes_nothing(self):
        post = post_of(COUNTING, 4, ("come", "ann", 0), ("answer", "ann", 3), ("send", "off", 2))
        first = everything(post, 4)
        self.assertEqual(everything(post, 4), first)
        self.assertEqual(post.weaving_for("ann", 3), post.weaving_for("ann", 3))

    def test_two_posts_by_turns(self):
        random = Random(50)
        posts = [(Post(plan, 2), Office(plan, 2)) for plan in (TAKING, COUNTING, TAKING)]
        for _ in range(60):
            post, office = random.choice(posts)
            name, args = any_deed(random, office)
            if office.word_for(name, args) is None:
                self.assertEqual(getattr(post, name)(*args), office.do(name, args))
            if random.random() < 0.1:
                self.assertEqual(post.undo(), office.undo())
            if random.random() < 0.1:
                with posts[0][0].trial() as inner:
                    inner.send("ask")
                    posts[1][0].within(lambda other: other.undo())
        for post, office in posts:
            self.assertEqual(everything(post, 2), office.everything())


if __name__ == "__main__":
    unittest.main()
