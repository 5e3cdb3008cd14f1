"""Tests that an argument may be anything, also a value that says that it is equal to every value ([3])."""

import unittest

from helpers import high, low
from maskededits import errors
from maskededits.checker import answer_to, answers_to, first_leak, first_wrong, shortened_calls
from maskededits.console import Console
from maskededits.edits import Edit
from maskededits.engine import Desk, Engine
from maskededits.faults import FAULTS, faulty_engine
from maskededits.journals import Journals
from maskededits.leaks import shortest_finding
from maskededits.levels import Levels, is_word
from maskededits.losses import first_loss
from maskededits.moments import Moment, Past
from maskededits.names import is_mark, is_name, name_text, parse_name
from maskededits.queries import (any_node, compare_views, from_loose, from_root, grouped_by, of_kind, of_level, size_below,
                                 sorted_by, with_text)
from maskededits.records import Record
from maskededits.release import Releases, payload_of
from maskededits.replicas import Copy, Home, base_of
from maskededits.server import Server
from maskededits.syntax import Script
from maskededits.texts import parse_lines

LEVELS = Levels(["low", "high"])
RIGHTS = {"ann": ["low", "high"], "bob": ["low", "high"]}
WORDS = ["insert", "pocket", "change", "move", "copy", "box", "delete", "typed", "undo", "redo", "script",
         "look", "clock", "room", "log"]


class EqualToAll:
    """A value that says that it is equal to every value."""

    def __eq__(self, other):
        return True

    def __hash__(self):
        return 7


class EqualToNothing(EqualToAll):
    """A value that says that it is equal to no value, not even itself."""

    def __eq__(self, other):
        return False

    def __hash__(self):
        return hash("look")


class EqualWithoutHash(EqualToAll):
    """A value that says that it is equal to every value, and can be no key."""

    __hash__ = None


class EqualWithoutTruth(EqualToAll):
    """A value that says that it is equal to every value, and can be no condition, no key and no text."""

    __hash__ = None

    def __bool__(self):
        raise ValueError("no condition")

    def __len__(self):
        raise ValueError("no length")

    def __repr__(self):
        raise ValueError("no text")


ODD = [EqualToAll, EqualToNothing, EqualWithoutHash, EqualWithoutTruth]


def worked():
    """Returns an engine in which both levels have done something."""
    engine = Engine(LEVELS)
    engine.perform("low", ("pocket", (), 0, "high", "p"))
    engine.perform("high", ("insert", low(1), 0, "line", "s"))
    return engine


def raising(odd):
    """Returns rows of an error and a function that must raise it with the odd value."""
    engine = worked()
    view, past, releases = engine.view("high"), Past(engine, "high"), Releases(engine, RIGHTS)
    server, console = Server(LEVELS, RIGHTS), Console()
    session, copy = server.session("ann", "high"), Copy(LEVELS, base_of(engine, "low"), "low", "pad")
    rows = [
        (errors.InvalidLevels, lambda: Levels(odd)),
        (errors.InvalidLevels, lambda: Levels(["low"], odd)),
        (errors.InvalidName, lambda: name_text(odd)),
        (errors.InvalidName, lambda: parse_name(odd)),
        (errors.InvalidNumber, lambda: Engine(LEVELS, limit=odd)),
        (errors.InvalidName, lambda: engine.perform("low", ("undo",), odd)),
        (errors.InvalidName, lambda: engine.perform("low", ("undo",), "", odd)),
        (errors.NotSeen, lambda: view[odd]),
        (errors.NotSeen, lambda: view.holds(odd)),
        (errors.NotSeen, lambda: view.path(odd)),
        (errors.InvalidQuery, lambda: of_kind(odd)),
        (errors.InvalidQuery, lambda: with_text(odd)),
        (errors.InvalidQuery, lambda: of_level(odd)),
        (errors.InvalidQuery, lambda: any_node() & odd),
        (errors.InvalidQuery, lambda: any_node() | odd),
        (errors.NotSeen, lambda: any_node()(view, odd)),
        (errors.InvalidQuery, lambda: from_root() >> odd),
        (errors.InvalidQuery, lambda: from_root() // odd),
        (errors.InvalidQuery, lambda: from_root() | odd),
        (errors.InvalidQuery, lambda: from_root() & odd),
        (errors.InvalidQuery, lambda: from_loose() - odd),
        (errors.NotSeen, lambda: size_below(view, odd)),
        (errors.InvalidQuery, lambda: sorted_by(view, [], odd)),
        (errors.NotSeen, lambda: sorted_by(view, [odd], "kind")),
        (errors.InvalidQuery, lambda: grouped_by(view, [], odd)),
        (errors.NotSeen, lambda: grouped_by(view, [odd], "size")),
        (errors.InvalidView, lambda: compare_views(odd, view)),
        (errors.InvalidView, lambda: compare_views(view, odd)),
        (errors.InvalidMoment, lambda: Moment(odd)),
        (errors.InvalidMoment, lambda: past.now & odd),
        (errors.InvalidMoment, lambda: past.now | odd),
        (errors.InvalidMoment, lambda: past.now.is_within(odd)),
        (errors.InvalidMoment, lambda: past(odd)),
        (errors.InvalidMoment, lambda: list(past.records(odd, past.now))),
        (errors.InvalidMoment, lambda: list(past.records(past.now, odd))),
        (errors.InvalidLevel, lambda: past.first_with(odd, 1)),
        (errors.InvalidNumber, lambda: past.first_with("low", odd)),
        (errors.InvalidLevel, lambda: past.last_without(odd, 1)),
        (errors.InvalidNumber, lambda: past.last_without("low", odd)),
        (errors.NotSeen, lambda: past.made(odd)),
        (errors.InvalidMoment, lambda: past.changes(odd, past.now)),
        (errors.InvalidView, lambda: Edit(odd, "low", "")),
        (errors.InvalidLevel, lambda: Edit(view, odd, "")),
        (errors.NotSeen, lambda: payload_of(view, odd)),
        (errors.NoRight, lambda: list(releases.offers(odd, "high"))),
        (errors.NoRight, lambda: releases.offer(odd, "high", high(1), "low", (), 0)),
        (errors.NoOffer, lambda: releases.approve("ann", "high", odd)),
        (errors.NoOffer, lambda: releases.withdraw("ann", "high", odd)),
        (errors.InvalidName, lambda: Copy(LEVELS, (), "low", odd)),
        (errors.BadRecords, lambda: copy.answer(odd)),
        (errors.NoFault, lambda: faulty_engine(odd, LEVELS)),
        (errors.InvalidRights, lambda: Server(LEVELS, odd)),
        (errors.NoRight, lambda: server.session(odd, "low")),
        (errors.NoOffer, lambda: session.approve(odd)),
        (errors.NoOffer, lambda: session.withdraw(odd)),
        (errors.InvalidLine, lambda: console.run(odd)),
    ]
    return rows + [(errors.InvalidLevel, each) for each in asking_for_levels(odd)]


def asking_for_levels(odd):
    """Returns functions that take an odd value for a level."""
    engine = worked()
    return [
        lambda: LEVELS.check(odd),
        lambda: LEVELS.leq("low", odd),
        lambda: LEVELS.above(odd, "low"),
        lambda: LEVELS.downs(odd),
        lambda: LEVELS.ups(odd),
        lambda: LEVELS.meet("low", odd),
        lambda: LEVELS.join(odd, "low"),
        lambda: engine.perform(odd, ("undo",)),
        lambda: engine.clock(odd),
        lambda: engine.log(odd),
        lambda: engine.room(odd),
        lambda: engine.view(odd),
        lambda: engine.state(odd),
        lambda: Desk(engine, odd),
        lambda: Past(engine, odd),
        lambda: Releases(engine, RIGHTS).offer("ann", odd, high(1), "low", (), 0),
        lambda: base_of(engine, odd),
        lambda: Copy(LEVELS, (), odd, "pad"),
        lambda: Journals(LEVELS).write(odd, ("undo",), None),
        lambda: list(Journals(LEVELS).journal(odd)),
        lambda: answer_to(engine, odd, ("look",)),
        lambda: shortened_calls(LEVELS, [], odd),
        lambda: shortened_calls(LEVELS, [(odd, ("look",))], "low"),
        lambda: answers_to(LEVELS, [(odd, ("look",))]),
        lambda: first_leak(LEVELS, [(odd, ("look",))]),
        lambda: first_loss(LEVELS, [(odd, ("look",))]),
        lambda: Server(LEVELS, RIGHTS).session("ann", odd),
        lambda: list(Server(LEVELS, RIGHTS).users(odd)),
    ]


def odd_deeds(odd):
    """Returns deeds that are none, and no calls that ask, because of an odd value; the value itself is one of them."""
    found = [odd, (odd,), (odd, 1), (odd, odd), (odd, ()), (odd, (), 0, "line", ""), (odd, ("line", "", ()), (), 0)]
    found += [("look", odd), ("clock", odd), ("room", odd), ("log", odd), ("undo", odd), ("redo", odd), ("script", odd)]
    found += [("insert", odd, 0, "line", ""), ("insert", (), odd, "line", ""), ("insert", (), 0, odd, ""), ("insert", (), 0, "line", odd)]
    found += [("insert", (odd,), 0, "line", ""), ("insert", ((odd, "", 1),), 0, "line", ""), ("insert", (("low", odd, 1),), 0, "line", "")]
    found += [("insert", (("low", "", odd),), 0, "line", ""), ("pocket", (), 0, odd, ""), ("box", odd), ("delete", odd)]
    found += [("change", odd, ""), ("change", low(1), odd), ("move", low(1), odd, 0), ("copy", low(1), (), odd)]
    return found


class ArgumentTests(unittest.TestCase):
    def test_errors_have_the_value_itself(self):
        for kind in ODD:
            odd = kind()
            for place, (error, call) in enumerate(raising(odd)):
                with self.subTest((kind.__name__, place)):
                    with self.assertRaises(error) as caught:
                        call()
                    self.assertIs(caught.exception.value, odd)

    def test_errors_about_a_part_have_the_whole(self):
        for kind in ODD:
            odd = kind()
            rows = [(errors.InvalidLevels, Levels, [odd, "high"]), (errors.InvalidName, name_text, (odd,)),
                    (errors.InvalidName, name_text, ((odd, "", 1),)), (errors.InvalidMoment, Moment, {"low": odd})]
            for error, call, thing in rows:
                with self.assertRaises(error) as caught:
                    call(thing)
                self.assertIs(caught.exception.value, thing)
            for pairs in ([(odd, "high")], [("low", odd)], [odd]):
                with self.assertRaises(errors.InvalidLevels) as caught:
                    Levels(["low", "high"], pairs)
                self.assertIs(caught.exception.value, pairs)
            for rights in ({"ann": odd}, {"ann": [odd]}):
                with self.assertRaises(errors.InvalidRights) as caught:
                    Server(LEVELS, rights)
                self.assertIs(caught.exception.value, rights)

    def test_texts_that_are_none(self):
        for kind in ODD:
            for call in (parse_lines, lambda text: Edit(worked().view("low"), "low", text)):
                with self.assertRaises(errors.InvalidText) as caught:
                    call(kind())
                self.assertIsNone(caught.exception.value)

    def test_questions_that_are_answered_with_no(self):
        engine = worked()
        copy, home = Copy(LEVELS, base_of(engine, "low"), "low", "pad"), Home(engine)
        copy.perform(("insert", (), 0, "line", ""))
        home.take(copy)
        for kind in ODD:
            odd = kind()
            told = [is_word(odd), is_mark(odd), is_mark((odd, "", 1)), is_mark(("low", odd, 1)), is_mark(("low", "", odd)), is_name(odd),
                    is_name((odd,)), odd in engine.view("high"), (odd,) in engine.view("high"), odd in Past(engine, "low"),
                    odd in copy, ("low", "pad", odd) in copy, odd in home, (odd, "pad", 1) in home, odd in Script.read('find("a");')]
            self.assertEqual(told, [False] * len(told))

    def test_objects_are_equal_to_no_odd_value(self):
        engine = worked()
        view = engine.view("low")
        copy = Copy(LEVELS, (), "low", "pad")
        things = [LEVELS, view, any_node(), from_root(), compare_views(view, view), Moment({}), Script(), copy,
                  Record(("low", "pad", 1), 1, None, ("undo",), None), *parse_lines('line - ""')]
        for kind in ODD:
            for thing in things:
                self.assertIs(thing == kind(), False)
                self.assertIs(thing != kind(), True)


class DeedTests(unittest.TestCase):
    def check_refused(self, answer, deed):
        self.assertEqual(len(answer), 3)
        self.assertEqual(answer[:2], ("refused", "deed"))
        self.assertIs(answer[2], deed)

    def test_deeds_and_calls_that_ask(self):
        for fault in ("", *FAULTS):
            engine = faulty_engine(fault, LEVELS)
            engine.perform("low", ("pocket", (), 0, "high", "p"))
            before = [engine.state(level) for level in LEVELS.names()]
            for kind in ODD:
                for deed in odd_deeds(kind()):
                    self.check_refused(engine.perform("low", deed), deed)
                    self.check_refused(answer_to(engine, "low", deed), deed)
                    self.check_refused(answer_to(engine, "high", deed), deed)
            self.assertEqual([engine.state(level) for level in LEVELS.names()], before)

    def test_all_words_are_known_as_texts_only(self):
        for word in WORDS:
            for thing in [(word.encode(),), ((word,),), ([word],), word, [word], {word: 1}, (None, word)]:
                self.check_refused(answer_to(worked(), "low", thing), thing)

    def test_desks_and_copies(self):
        desk = Desk(worked(), "low")
        copy = Copy(LEVELS, base_of(worked(), "low"), "low", "pad")
        for kind in ODD:
            for deed in odd_deeds(kind()):
                self.check_refused(desk.deed(deed), deed)
                self.check_refused(copy.perform(deed), deed)
        self.assertEqual(len(copy), 0)

    def test_sessions_log_all_but_typed(self):
        for kind in ODD:
            server = Server(LEVELS, RIGHTS)
            session = server.session("ann", "low")
            deeds = odd_deeds(kind())
            for many, deed in enumerate(deeds, start=1):
                self.check_refused(session.call(deed), deed)
                self.assertEqual(len(server), many)
                level, logged, answer = server.log()[-1]
                self.assertEqual(level, "low")
                self.assertIs(logged, deed)
                self.check_refused(answer, deed)
            for deed in [("typed",), ("typed", kind()), ("typed", kind(), (), 0)]:
                self.check_refused(session.call(deed), deed)
                self.assertEqual(len(server), len(deeds))

    def test_parts_of_a_deed(self):
        for kind in ODD:
            server, odd = Server(LEVELS, RIGHTS), kind()
            with self.assertRaises(errors.Refused) as caught:
                server.session("ann", "low").do(odd)
            self.assertEqual(caught.exception.word, "deed")
            self.assertEqual(len(caught.exception.value), 1)
            self.assertIs(caught.exception.value[0], odd)
            self.assertEqual(len(server), 1)

    def test_what_is_offered_to_no_level(self):
        server = Server(LEVELS, RIGHTS)
        low_one, high_one = server.session("ann", "low"), server.session("ann", "high")
        low_one.do("pocket", (), 0, "high", "p")
        note = high_one.do("insert", low(1), 0, "line", "s")
        for kind in ODD:
            odd = kind()
            with self.assertRaises(errors.Refused) as caught:
                high_one.offer(note, odd, (), 0)
            self.assertEqual(caught.exception.word, "above")
            self.assertIs(caught.exception.value, odd)


class CheckerTests(unittest.TestCase):
    def test_no_leaks_and_losses_of_engines_without_a_fault(self):
        for kind in ODD:
            calls = [(level, deed) for deed in odd_deeds(kind()) for level in ("low", "high")]
            self.assertIsNone(first_leak(LEVELS, calls))
            self.assertIsNone(first_loss(LEVELS, calls))
            self.assertIsNone(shortest_finding(LEVELS, tuple(calls[2:6]), 2, ""))

    def test_logs_of_servers_have_no_wrong_answers(self):
        for kind in ODD:
            server = Server(LEVELS, RIGHTS)
            for deed in odd_deeds(kind()):
                server.session("ann", "low").call(deed)
            self.assertIsNone(first_wrong(LEVELS, server.log()))

    def test_odd_answers_are_wrong(self):
        note = ("insert", (), 0, "line", "a")
        rows = [(("clock",), ("told", 0)), (("look",), ("told", ((), ()))), (("log",), ("told", ())), (note, ("told", low(1))),
                (("undo",), ("refused", "nothing", None)), (("delete", low(9)), ("refused", "name", low(9))), (("box", "low"), ("refused", "above", "low"))]
        for kind in ODD:
            odd = kind()
            for deed, due in rows:
                self.assertIsNone(first_wrong(LEVELS, [("low", deed, due)]))
                for answer in [odd, (odd,), (odd, odd), (odd, *due[1:]), (*due[:-1], odd), (due[0], odd, *due[2:]), (due, odd)]:
                    found = first_wrong(LEVELS, [("low", deed, answer)])
                    self.assertIsNotNone(found, (kind.__name__, deed))
                    self.assertEqual([found[0], found[2]], [0, due])
                    self.assertIs(found[1], answer)

    def test_odd_values_within_names_that_are_told(self):
        for kind in ODD:
            odd = kind()
            for answer in [("told", (odd,)), ("told", ((odd, "", 1),)), ("told", (("low", odd, 1),)), ("told", (("low", "", odd),))]:
                self.assertEqual(first_wrong(LEVELS, [("low", ("insert", (), 0, "line", "a"), answer)])[2], ("told", low(1)))

    def test_other_answers_to_odd_deeds_are_wrong(self):
        for kind in ODD:
            for deed in odd_deeds(kind()):
                for answer in [("told", ((), ())), ("told", None), ("told", deed), ("refused", "deed", None), ("refused", "deed", ("look",)),
                               ("refused", "deed", (("look",),)), ("refused", "deed"), ("refused", "name", deed)]:
                    found = first_wrong(LEVELS, [("low", deed, answer)])
                    self.assertIs(found[1], answer)
                    self.check_due(found, deed)

    def check_due(self, found, deed):
        self.assertEqual([found[0], found[2][:2]], [0, ("refused", "deed")])
        self.assertIs(found[2][2], deed)

    def test_values_of_each_kind_differ(self):
        things = [None, True, 1, 1.0, "a", b"a", (), [], {}, ("a",), ["a"], object(), frozenset()]
        for place, one in enumerate(things):
            for index, other in enumerate(things):
                found = first_wrong(LEVELS, [("low", one, ("refused", "deed", other))])
                self.assertEqual(found is None, place == index, (one, other))


if __name__ == "__main__":
    unittest.main()
