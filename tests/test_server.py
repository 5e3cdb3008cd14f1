"""Tests of the server and its sessions ([36])."""

import random
import unittest

from busy import ORDERS, Busy
from helpers import high, low
from maskededits.checker import answer_to, answers_to, first_wrong
from maskededits.edits import Edit
from maskededits.engine import Engine
from maskededits.errors import (Closed, InvalidEdit, InvalidLevel, InvalidNumber, InvalidRights, InvalidText, NoOffer, NoRight,
                                NotSeen, Refused, SameUser)
from maskededits.levels import Levels
from maskededits.moments import Moment, Past
from maskededits.server import Server, Session
from maskededits.texts import format_view
from maskededits.views import View

LEVELS = Levels(["low", "high"])
RIGHTS = {"ann": ["low", "high"], "bob": ("high",), "carl": [], "dora": ["low", "low"]}
POCKET = ("pocket", (), 0, "high", "p")
SECRET = ("insert", low(1), 0, "line", "s")
TYPED = ("typed", ("line", "x", ()), (), 0)
NO_LEVELS = [None, "", "none", 0, ["low"], ("low",), {}, True]


def server(**named):
    return Server(LEVELS, RIGHTS, **named)


def filled():
    """Returns a server with a pocket and a line in it, and sessions of ann at low and high and of bob at high."""
    made = server()
    ann, other, bob = made.session("ann", "low"), made.session("ann", "high"), made.session("bob", "high")
    ann.do(*POCKET)
    other.do(*SECRET)
    return made, ann, other, bob


class ServerTests(unittest.TestCase):
    def test_wrong_rights(self):
        for rights in [None, 0, "ann", [], [("ann", ["low"])], {"Ann": ["low"]}, {"": []}, {"ninesigns": []}, {None: ["low"]}, {("ann",): []},
                       {"ann": "low"}, {"ann": None}, {"ann": {"low": 1}}, {"ann": ["low", "none"]}, {"ann": [["low"]]}, {"ann": [None]},
                       {"ann": ["low"], "bob": ["High"]}, {"ann": ("low", 1)}, {1: ["low"]}, {True: []}]:
            with self.assertRaises(InvalidRights) as caught:
                Server(LEVELS, rights, limit=0)
            self.assertIs(caught.exception.value, rights)

    def test_rights_that_are_right(self):
        for rights in [{}, {"ann": []}, {"ann": ()}, {"ann": ["low", "low"]}, {"ann": ("high",), "bob": ["low"]}]:
            self.assertEqual(len(Server(LEVELS, rights)), 0)

    def test_limits(self):
        for limit in (0, 61, None, True, "4"):
            with self.assertRaises(InvalidNumber) as caught:
                Server(LEVELS, RIGHTS, limit=limit)
            self.assertIs(caught.exception.value, limit)
        self.assertEqual([server(limit=3).engine.limit, server().engine.limit], [3, 40])
        self.assertIsInstance(server().engine, Engine)

    def test_rights_are_copied(self):
        rights = {"ann": ["low"]}
        made = Server(LEVELS, rights)
        rights["ann"].append("high")
        rights["bob"] = ["low"]
        self.assertEqual([list(made.users("low")), list(made.users("high"))], [["ann"], []])
        for user, level in [("ann", "high"), ("bob", "low")]:
            with self.assertRaises(NoRight):
                made.session(user, level)

    def test_sessions(self):
        for user, level in [("ann", "low"), ("ann", "high"), ("bob", "high"), ("dora", "low")]:
            session = server().session(user=user, level=level)
            self.assertIsInstance(session, Session)
            self.assertEqual([session.user, session.level, session.is_open], [user, level, True])

    def test_sessions_without_a_right(self):
        for user in [None, 0, "", "eve", "carl", ["ann"], ("ann",), {}, True, "bob"]:
            with self.assertRaises(NoRight) as caught:
                server().session(user, "low")
            self.assertIs(caught.exception.value, user)
        for level in NO_LEVELS:
            for user in ("ann", "eve", None, []):
                with self.assertRaises(InvalidLevel) as caught:
                    server().session(user, level)
                self.assertIs(caught.exception.value, level)

    def test_users(self):
        made = Server(LEVELS, {"dora": ["low"], "bob": ["high"], "ann": ["high", "low"], "carl": []})
        self.assertEqual([list(made.users("low")), list(made.users(level="high"))], [["ann", "dora"], ["ann", "bob"]])
        for level in NO_LEVELS:
            rows = made.users(level)
            with self.assertRaises(InvalidLevel) as caught:
                next(rows)
            self.assertIs(caught.exception.value, level)

    def test_the_log(self):
        made, ann, other, bob = filled()
        self.assertEqual(made.log(), [("low", POCKET, ("told", low(1))), ("high", SECRET, ("told", high(1)))])
        ann.call(("delete", high(1)))
        bob.call(("clock",))
        with self.assertRaises(Refused):
            ann.do("undo", 1)
        self.assertEqual(made.log()[2:], [("low", ("delete", high(1)), ("refused", "name", high(1))), ("high", ("clock",), ("told", 2)),
                                          ("low", ("undo", 1), ("refused", "deed", ("undo", 1)))])
        self.assertEqual(len(made), 5)
        made.log().clear()
        self.assertEqual(len(made.log()), 5)

    def test_refused_values_that_are_no_tuples(self):
        made, ann, other, bob = filled()
        for thing in [None, "undo", 0, ["undo"], {}, b"undo"]:
            self.assertEqual(ann.call(thing), ("refused", "deed", thing))
            level, deed, answer = made.log()[-1]
            self.assertEqual([level, answer], ["low", ("refused", "deed", thing)])
            self.assertIs(deed, thing)
        self.assertEqual(len(made), 8)
        self.assertIsNone(first_wrong(LEVELS, made.log()))

    def test_equal_logs_of_equal_calls(self):
        self.assertEqual(filled()[0].log(), filled()[0].log())


class SessionTests(unittest.TestCase):
    def test_call(self):
        made, ann, other, bob = filled()
        self.assertEqual(ann.call(("change", low(1), "q")), ("told", "p"))
        self.assertEqual(bob.call(("change", high(1), "t")), ("told", "s"))
        self.assertEqual(ann.call(("change", high(1), "t")), ("refused", "name", high(1)))
        self.assertEqual([ann.call((word,)) for word in ("clock", "room")], [("told", 2), ("told", 39)])
        self.assertEqual(ann.call(("look",)), ("told", (ann.view().tree(), ())))
        self.assertEqual(ann.call(("log",))[1], ((POCKET, low(1)), (("change", low(1), "q"), "p")))
        self.assertEqual(ann.call(("script", "tell 1;")), ("told", (("number", 1),)))
        self.assertEqual([ann.call(("undo",)), ann.call(deed=("redo",))], [("told", "script")] * 2)

    def test_do(self):
        made, ann, other, bob = filled()
        self.assertEqual([ann.do("clock"), bob.do("room"), ann.do("undo"), ann.do("redo"), ann.do("look")[1]], [1, 39, "pocket", "pocket", ()])
        self.assertIsNone(ann.do("move", low(1), (), 0))
        for parts, word, value in [(("delete", high(1)), "name", high(1)), ((), "deed", ()), ((None,), "deed", (None,)), (("redo",), "nothing", None),
                                   (("pocket", (), 0, "low", ""), "above", "low"), (("script", "tell"), "script", ("syntax", 4))]:
            with self.assertRaises(Refused) as caught:
                ann.do(*parts)
            self.assertEqual([caught.exception.word, caught.exception.value], [word, value])
        self.assertEqual([row[1] for row in made.log()[-6:]], [("delete", high(1)), (), (None,), ("redo",), ("pocket", (), 0, "low", ""), ("script", "tell")])

    def test_typed_is_refused_and_not_logged(self):
        made, ann, other, bob = filled()
        self.assertEqual(ann.call(TYPED), ("refused", "deed", TYPED))
        with self.assertRaises(Refused) as caught:
            ann.do(*TYPED)
        self.assertEqual([caught.exception.word, caught.exception.value], ["deed", TYPED])
        self.assertEqual([len(made), len(ann.view()), ann.do("clock")], [2, 1, 1])

    def test_view_and_past(self):
        made, ann, other, bob = filled()
        for session in (ann, other, bob):
            self.assertIsInstance(session.view(), View)
            self.assertEqual(session.view(), made.engine.view(session.level))
            self.assertIsInstance(session.past(), Past)
        self.assertEqual([ann.past().now, bob.past().now], [Moment({"low": 1}), Moment({"low": 1, "high": 1})])
        past = bob.past()
        self.assertEqual(past(past.made(high(1))), bob.view())
        self.assertEqual(len(made), 2)

    def test_edit(self):
        made, ann, other, bob = filled()
        text = 'list - "a"\n  pocket low.1 [high] "q"\nline - "b"'
        answers = ann.edit(text)
        self.assertEqual(answers, [("told", low(2)), ("told", None), ("told", "p"), ("told", low(3))])
        self.assertEqual(format_view(ann.view()), 'list low.2 "a"\n  pocket low.1 [high] "q"\nline low.3 "b"')
        self.assertEqual([row[1][0] for row in made.log()[2:]], ["insert", "move", "change", "insert"])
        self.assertEqual([row[2] for row in made.log()[2:]], answers)
        self.assertEqual(ann.edit(text=format_view(ann.view())), [])

    def test_edit_stops_behind_a_refusal(self):
        made = Server(LEVELS, RIGHTS, limit=1)
        ann = made.session("ann", "low")
        self.assertEqual(ann.edit('line - "a"\nline - "b"\nline - "c"'), [("told", low(1)), ("refused", "full", 1)])
        self.assertEqual(len(made), 2)

    def test_edit_raises_as_edits_do(self):
        made, ann, other, bob = filled()
        for text, error, value in [(None, InvalidText, None), ("none", InvalidText, 0), ('line low.9 "x"', InvalidEdit, 0)]:
            with self.assertRaises(error) as caught:
                ann.edit(text)
            self.assertEqual(caught.exception.value, value)
        with self.assertRaises(InvalidEdit) as caught:
            bob.edit('line high.2 "t"')
        self.assertEqual(caught.exception.value, 0)
        made = Server(Levels(["a", "b", "c"], [("b", "c")]), {"ann": ["a", "b", "c"]})
        one, two = made.session("ann", "a"), made.session("ann", "c")
        pocket = one.do("pocket", (), 0, "b", "")
        one.do("pocket", (), 1, "c", "")
        made.session("ann", "b").do("pocket", pocket, 0, "c", "")
        self.assertEqual(Edit(two.view(), "c", format_view(two.view())).kinds(), [])
        self.assertEqual(len(two.edit(format_view(two.view()) + '\n  line - "x"')), 1)

    def test_errors_of_edits_change_nothing(self):
        made, ann, other, bob = filled()
        with self.assertRaises(InvalidEdit):
            ann.edit('line - "a"\nline low.9 "x"\npocket low.1 [high] "p"')
        self.assertEqual([len(made), len(ann.view())], [2, 1])

    def test_offers(self):
        made, ann, other, bob = filled()
        self.assertEqual(other.offer(high(1), "low", (), 1), 1)
        self.assertEqual(bob.offer(name=high(1), to="low", holder=(), place=0), 2)
        self.assertEqual(bob.open_offers(), [(1, "ann", ("line", "s", ()), "low", (), 1), (2, "bob", ("line", "s", ()), "low", (), 0)])
        self.assertEqual([ann.open_offers(), len(ann.view()), ann.do("clock"), len(made)], [[], 1, 1, 3])
        with self.assertRaises(SameUser) as caught:
            other.approve(1)
        self.assertEqual(caught.exception.value, "ann")
        with self.assertRaises(NoRight) as caught:
            bob.withdraw(1)
        self.assertEqual(caught.exception.value, "bob")
        self.assertEqual(bob.approve(number=1), low(2))
        self.assertEqual(made.log()[-1], ("low", ("typed", ("line", "s", ()), (), 1), ("told", low(2))))
        self.assertIsNone(bob.withdraw(number=2))
        self.assertEqual([bob.open_offers(), len(made)], [[], 4])
        for act in (bob.approve, bob.withdraw, other.approve, ann.approve):
            for number in [0, 1, 2, 3, None, True, "1", [1]]:
                with self.assertRaises(NoOffer) as caught:
                    act(number)
                self.assertIs(caught.exception.value, number)
        self.assertIsNone(first_wrong(LEVELS, made.log()))

    def test_offers_that_are_refused(self):
        made, ann, other, bob = filled()
        for parts, word, value in [((low(1), "low", (), 0), "own", low(1)), ((high(9), "low", (), 0), "name", high(9)),
                                   ((high(1), "high", (), 0), "above", "high"), ((high(1), "none", (), 0), "above", "none"),
                                   ((high(1), "low", low(1), 0), "name", low(1)), ((high(1), "low", (), 2), "place", 2)]:
            with self.assertRaises(Refused) as caught:
                other.offer(*parts)
            self.assertEqual([caught.exception.word, caught.exception.value], [word, value])
        self.assertEqual([other.open_offers(), len(made)], [[], 2])

    def test_a_refused_approval_does_not_stand_in_the_log(self):
        made, ann, other, bob = filled()
        other.offer(high(1), "low", (), 1)
        ann.do("delete", low(1))
        many = len(made)
        with self.assertRaises(Refused) as caught:
            bob.approve(1)
        self.assertEqual([caught.exception.word, caught.exception.value, len(made)], ["place", 1, many])
        self.assertEqual([row[0] for row in bob.open_offers()], [1])
        ann.do("undo")
        self.assertEqual(bob.approve(1), low(2))
        self.assertEqual(made.log()[-1][0], "low")

    def test_what_is_offered_with_pockets(self):
        made = Server(Levels(["a", "b", "c"], [("b", "c")]), {"ann": ["a", "b", "c"], "bob": ["b"]})
        one, two = made.session("ann", "a"), made.session("ann", "b")
        pocket = one.do("pocket", (), 0, "b", "")
        inner = two.do("pocket", pocket, 0, "c", "")
        with self.assertRaises(Refused) as caught:
            two.offer(inner, "a", (), 0)
        self.assertEqual([caught.exception.word, caught.exception.value], ["closed", inner])

    def test_lists_are_new(self):
        made, ann, other, bob = filled()
        other.offer(high(1), "low", (), 1)
        bob.open_offers().clear()
        self.assertEqual(len(bob.open_offers()), 1)


class ClosedTests(unittest.TestCase):
    def check(self, session):
        self.assertFalse(session.is_open)
        for act in (lambda: session.call(None), lambda: session.call(("clock",)), lambda: session.call(TYPED), lambda: session.do(),
                    lambda: session.do("undo"), session.view, session.past, lambda: session.edit(None), lambda: session.edit(""),
                    lambda: session.offer(None, None, None, None), lambda: session.approve(None), lambda: session.withdraw(None),
                    session.open_offers):
            with self.assertRaises(Closed):
                act()
        self.assertIsNone(session.close())
        self.assertEqual(len(session.server), 2)

    def test_closed(self):
        made, ann, other, bob = filled()
        self.assertIsNone(bob.close())
        self.check(bob)
        self.assertEqual([ann.is_open, other.is_open, ann.do("clock")], [True, True, 1])

    def test_the_end_of_a_block(self):
        made, ann, other, bob = filled()
        with bob as held:
            self.assertIs(held, bob)
            self.assertTrue(bob.is_open)
            self.assertEqual(len(held.view()), 2)
        self.check(bob)

    def test_an_exception_is_not_held_back(self):
        made, ann, other, bob = filled()
        with self.assertRaises(ZeroDivisionError):
            with bob:
                raise ZeroDivisionError
        self.check(bob)
        with self.assertRaises(NotSeen):
            with ann:
                raise NotSeen(1)
        self.check(ann)

    def test_a_block_with_a_closed_session(self):
        made, ann, other, bob = filled()
        bob.close()
        with bob as held:
            self.assertIs(held, bob)
            self.check(held)
        self.check(bob)

    def test_a_session_that_is_closed_within_its_block(self):
        made, ann, other, bob = filled()
        with bob:
            bob.close()
            self.check(bob)
        self.check(bob)

    def test_a_new_session_is_open(self):
        made, ann, other, bob = filled()
        bob.close()
        self.assertEqual(made.session("bob", "high").do("clock"), 2)


class LogTests(unittest.TestCase):
    def test_random_work_is_logged_and_due(self):
        for seed in range(30):
            levels, chance = ORDERS[seed % len(ORDERS)], random.Random(seed)
            made = Server(levels, {user: levels.names() for user in ("ann", "bob")}, limit=12)
            sessions = [made.session(user, level) for user in ("ann", "bob") for level in levels.names()]
            busy, calls = Busy(seed, made.engine), []
            for _ in range(40):
                session = chance.choice(sessions)
                deed = busy.call(session.level)
                if deed is not None and deed[0] == "typed":
                    self.offer(chance, session, sessions, levels)
                    calls.extend(row[:2] for row in made.log()[len(calls):])
                    continue
                answer = session.call(deed)
                calls.append((session.level, deed))
                self.assertEqual(made.log()[-1], (session.level, deed, answer))
            self.assertEqual([row[:2] for row in made.log()], calls)
            self.assertEqual([row[2] for row in made.log()], answers_to(levels, calls, limit=12))
            self.assertIsNone(first_wrong(levels, made.log(), 12))
            self.assertEqual(len(made), len(calls))

    def offer(self, chance, session, sessions, levels):
        """Offers a node to a lower level; another user of the level approves it or not."""
        names = [name for name in session.view().walk() if session.view()[name][2] == session.level]
        lower = [level for level in levels.downs(session.level) if level != session.level]
        if not names or not lower:
            return
        try:
            number = session.offer(chance.choice(names), chance.choice(lower), (), 0)
            others = [each for each in sessions if each.level == session.level and each.user != session.user]
            others[0].approve(number)
        except Refused as refusal:
            self.assertIn(refusal.word, ("closed", "own", "full"))

    def test_a_log_of_an_engine_that_is_changed_otherwise(self):
        made, ann, other, bob = filled()
        answer_to(made.engine, "low", ("insert", (), 0, "line", ""))
        ann.do("clock")
        self.assertEqual(first_wrong(LEVELS, made.log()), (2, ("told", 2), ("told", 1)))


if __name__ == "__main__":
    unittest.main()
