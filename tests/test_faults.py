"""Tests of engines with faults ([34])."""

import unittest

from busy import ASKING, ORDERS, Busy, busy_calls
from helpers import high, low, seen_of, texts
from maskededits.checker import answer_to, first_leak
from maskededits.engine import Desk, Engine
from maskededits.errors import InvalidLevel, InvalidName, InvalidNumber, NoFault
from maskededits.faults import FAULTS, faulty_engine
from maskededits.levels import Levels
from maskededits.losses import first_loss
from maskededits.running import run_script
from maskededits.syntax import Script

WORDS = ("numbers", "clock", "hidden", "heavy", "room", "undos", "redos", "steps", "shown", "emptied", "shallow", "stolen")
LEVELS = Levels(["low", "high"])
FOUR = Levels(["low", "east", "west", "top"], [("east", "top"), ("west", "top")])
CHAIN = Levels(["low", "mid", "high"], [("mid", "high")])
LINE = ("insert", (), 0, "line", "")
POCKET = ("pocket", (), 0, "high", "p")
SECRET = ("insert", low(1), 0, "line", "s")
UNDO, REDO, EMPTY = ("undo",), ("redo",), ("script", "")


def mid(number):
    return (("mid", "", number),)


def named(fault, levels=LEVELS, limit=40):
    """Returns an engine with a fault, and one without."""
    return faulty_engine(fault, levels, limit), Engine(levels, limit=limit)


def both(engines, *calls):
    """Does calls in both engines, in which they must be told alike."""
    for level, deed in calls:
        answers = [engine.perform(level, deed) for engine in engines]
        if answers[0] != answers[1] or answers[0][0] != "told":
            raise AssertionError((level, deed, answers))


def nested(engine):
    """Makes a pocket that holds a line, and a plain node with a deeper pocket that holds a line, too."""
    for level, deed in [("low", ("insert", (), 0, "list", "top")), ("low", ("pocket", low(1), 0, "mid", "p")),
                        ("mid", ("insert", low(2), 0, "line", "x")), ("mid", ("insert", low(2), 1, "list", "y")),
                        ("mid", ("pocket", mid(2), 0, "high", "q")), ("high", ("insert", mid(3), 0, "line", "z"))]:
        answer = engine.perform(level, deed)
        if answer[0] != "told":
            raise AssertionError((level, deed, answer))
    return engine


class WordTests(unittest.TestCase):
    def test_the_words_in_their_order(self):
        self.assertEqual(FAULTS, WORDS)
        self.assertIsInstance(FAULTS, tuple)

    def test_words_that_are_none(self):
        for word in [None, 0, 1, True, "none", "Clock", " clock", "clock ", b"clock", ("clock",), ["clock"], {}, FAULTS]:
            with self.assertRaises(NoFault) as caught:
                faulty_engine(word, LEVELS)
            self.assertIs(caught.exception.value, word)

    def test_limits_that_are_none(self):
        for fault in ("", *FAULTS):
            for limit in (0, 61, None, True, "4"):
                with self.assertRaises(InvalidNumber) as caught:
                    faulty_engine(fault, LEVELS, limit)
                self.assertIs(caught.exception.value, limit)
        with self.assertRaises(NoFault):
            faulty_engine("none", LEVELS, 0)

    def test_each_is_an_engine_with_the_limit(self):
        for fault in ("", *FAULTS):
            engine = faulty_engine(fault, LEVELS, limit=3)
            self.assertIsInstance(engine, Engine)
            self.assertEqual([engine.room("low"), engine.limit, len(engine.view("high")), engine.clock("high")], [3, 3, 0, 0])
            self.assertEqual(faulty_engine(word=fault, levels=LEVELS).room("high"), 40)

    def test_exceptions_are_those_of_an_engine_without(self):
        for fault in FAULTS:
            engine = faulty_engine(fault, LEVELS)
            for level in [None, "none", 0, ["low"], {}]:
                for ask in (engine.clock, engine.log, engine.room, engine.view, engine.state,
                            lambda each: engine.perform(each, LINE), lambda each: Desk(engine, each)):
                    with self.assertRaises(InvalidLevel) as caught:
                        ask(level)
                    self.assertIs(caught.exception.value, level)
            for source, mark in [(None, None), ("Pad", None), ("", ("high", "", 1)), ("", ("low", "", 10 ** 18)), ("", 5)]:
                with self.assertRaises(InvalidName):
                    engine.perform("low", LINE, source, mark)
            for deed in [None, (), ("insert",), ("delete", "low.1"), ("change", low(1)), "undo", {}, ("copy", low(1), (), True)]:
                self.assertEqual(engine.perform("low", deed), ("refused", "deed", deed))
            self.assertEqual(engine.perform("low", ("delete", low(1))), ("refused", "name", low(1)))
            self.assertEqual(engine.clock("low"), 0)

    def test_a_mark_may_be_given(self):
        for fault in FAULTS:
            engine = faulty_engine(fault, LEVELS)
            self.assertEqual(engine.perform("low", LINE, mark=("low", "pad", 7)), ("told", low(7, "pad")))
            with self.assertRaises(InvalidName):
                engine.perform("low", LINE, mark=("low", "pad", 7))
            self.assertEqual(engine.perform("low", LINE, "pad"), ("told", low(8, "pad")))


class SameTests(unittest.TestCase):
    def test_without_a_fault(self):
        for seed in range(10):
            levels = ORDERS[seed % len(ORDERS)]
            calls, engine = busy_calls(seed, levels, 30)
            other = faulty_engine("", levels)
            for level, deed in calls:
                answer_to(other, level, deed)
            for level in levels.names():
                self.assertEqual(seen_of(other, level), seen_of(engine, level))

    def test_for_one_level_alone_no_fault_shows(self):
        levels = Levels(["one"])
        for seed in range(30):
            calls, engine = busy_calls(seed, levels, 40, (40, 8, 3)[seed % 3])
            for fault in FAULTS:
                # What was ever made lessens the steps of scripts, whoever has made it.
                kept = [call for call in calls if fault != "steps" or call[1] is None or call[1][0] != "script"]
                plain, other = Engine(levels, limit=engine.limit), faulty_engine(fault, levels, engine.limit)
                for level, deed in kept:
                    self.assertEqual(answer_to(other, level, deed), answer_to(plain, level, deed), (fault, deed))
                self.assertEqual(other.view("one"), plain.view("one"))
                self.assertIsNone(first_leak(levels, calls, fault, engine.limit))
                self.assertIsNone(first_loss(levels, calls, fault, engine.limit))

    def test_twins_have_the_fault_too(self):
        for seed in range(12):
            levels = ORDERS[:4][seed % 4]
            for fault in FAULTS:
                engine = faulty_engine(fault, levels, 12)
                busy = Busy(seed, engine)
                for _ in range(25):
                    level = busy.chance.choice(levels.names())
                    answer_to(engine, level, busy.call(level))
                twin = engine.twin()
                for each in levels.names():
                    self.assertEqual(seen_of(twin, each), seen_of(engine, each))
                calls = [(level, busy.call(level)) for level in levels.names() * 3]
                answers = [answer_to(twin, level, deed) for level, deed in calls]
                self.assertEqual(answers, [answer_to(engine, level, deed) for level, deed in calls], fault)
                for each in levels.names():
                    self.assertEqual(seen_of(twin, each), seen_of(engine, each))

    def test_what_differs_is_the_fault_and_nothing_else(self):
        for seed in range(40):
            levels = ORDERS[seed % len(ORDERS)]
            for fault in ("clock", "hidden", "heavy", "room", "redos", "shown", "emptied", "shallow", "stolen", "steps"):
                other, plain = named(fault, levels, (40, 12)[seed % 2])
                self.compare(Busy(seed, plain), other, fault)

    def compare(self, busy, other, fault):
        """Plays a history in both engines up to the first call that is answered otherwise, which must be the fault."""
        plain, levels = busy.engine, busy.engine.levels
        for _ in range(40):
            level = busy.chance.choice(levels.names())
            deed = busy.call(level)
            before = {each: plain.view(each) for each in levels.names()}
            clocks, room = len([each for name in levels.names() for each in plain.log(name)]), plain.room(level)
            one, two = answer_to(plain, level, deed), answer_to(other, level, deed)
            if one == two and fault not in ("emptied", "shallow", "stolen"):
                continue
            if one == two:
                if any(plain.view(each) != other.view(each) for each in levels.names()):
                    self.assertIn(deed[0], ("delete", "script") if fault == "emptied" else ("copy", "script"))
                    return
                continue
            name = deed[1] if len(deed) > 1 else None
            if fault == "clock":
                self.assertEqual([deed, two], [("clock",), ("told", clocks)])
            elif fault == "hidden":
                self.assertEqual([one, two], [("refused", "name", name), ("refused", "own", name)])
                self.assertTrue(any(name in view for view in before.values()))
            elif fault == "heavy":
                if deed[0] == "script":
                    self.assertIn("delete", deed[1])
                else:
                    self.assertEqual([deed[0], one[0], two], ["delete", "told", ("refused", "heavy", name)])
                return
            elif fault == "room" and deed != ("room",):
                self.assertEqual([one[0], two[0]], ["told", "refused" if deed[0] != "script" else two[0]])
                return
            elif fault == "room":
                self.assertLess(two[1], one[1])
                self.assertEqual(one[1], room)
            elif fault == "redos":
                self.assertEqual([deed, one[0], two], [REDO, "told", ("refused", "nothing", None)])
                return
            elif fault == "shown":
                self.assertIn(deed[0], ("look", "script"))
                self.assertIn("*", repr(two))
                if deed[0] == "script":
                    return
            elif fault == "steps":
                self.assertEqual([deed[0], two[:2], two[2][0]], ["script", ("refused", "script"), "steps"])
                return
            else:
                self.fail((fault, deed, one, two))


class NumberTests(unittest.TestCase):
    def test_numbers_go_on_for_all_levels_and_sources_together(self):
        engine = faulty_engine("numbers", LEVELS)
        self.assertEqual(engine.perform("low", ("pocket", (), 0, "high", "")), ("told", low(1)))
        self.assertEqual(engine.perform("high", SECRET), ("told", high(2)))
        self.assertEqual(engine.perform("low", LINE, "pad"), ("told", low(3, "pad")))
        self.assertEqual(engine.perform("low", ("typed", ("a", "", (("b", "", ()),)), (), 0)), ("told", low(4)))
        self.assertEqual(engine.perform("high", ("box", "low")), ("refused", "above", "low"))
        self.assertEqual(engine.perform("low", ("copy", low(1), (), 0)), ("told", (*low(1), ("low", "", 6))))
        self.assertEqual(engine.perform("high", ("script", 'tell insert(node("low.1"), 0, "line", "");')), ("told", (("name", high(7)),)))
        self.assertEqual(engine.perform("low", LINE, mark=("low", "", 50)), ("told", low(50)))
        self.assertEqual(engine.perform("high", SECRET), ("told", high(51)))

    def test_states_know_the_numbers(self):
        one, other = faulty_engine("numbers", LEVELS), faulty_engine("numbers", LEVELS)
        for engine in (one, other):
            engine.perform("low", ("box", "high"))
        self.assertEqual(one.state("low"), other.state("low"))
        one.perform("high", SECRET)
        self.assertNotEqual(one.state("low"), other.state("low"))


class ToldTests(unittest.TestCase):
    def test_clock(self):
        engine = faulty_engine("clock", FOUR)
        for level, deed in [("low", ("box", "east")), ("east", ("insert", low(1), 0, "line", "")), ("west", UNDO), ("top", EMPTY)]:
            engine.perform(level, deed)
        self.assertEqual([engine.clock(level) for level in FOUR.names()], [3, 3, 3, 3])
        self.assertEqual([len(engine.log(level)) for level in FOUR.names()], [1, 1, 0, 1])

    def test_hidden(self):
        engines = named("hidden")
        both(engines, ("low", POCKET), ("low", LINE), ("high", SECRET))
        for deed in [("change", high(1), "x"), ("move", high(1), (), 0), ("copy", high(1), (), 0), ("delete", high(1))]:
            self.assertEqual(engines[0].perform("low", deed), ("refused", "own", high(1)))
            self.assertEqual(engines[1].perform("low", deed), ("refused", "name", high(1)))
        # As a holder, or if it is not there, it is refused as ever.
        for deed, value in [(("insert", high(1), 0, "line", ""), high(1)), (("move", low(2), high(1), 0), high(1)),
                            (("move", low(1), low(1), 0), low(1)), (("delete", high(2)), high(2)),
                            (("copy", low(2), low(1), 0), low(1))]:
            for engine in engines:
                self.assertEqual(engine.perform("low", deed), ("refused", "name", value))
        both(engines, ("high", ("delete", high(1))))
        for engine in engines:
            self.assertEqual(engine.perform("low", ("delete", high(1))), ("refused", "name", high(1)))
            self.assertEqual(engine.perform("high", ("delete", low(1))), ("refused", "own", low(1)))

    def test_hidden_in_levels_that_cannot_be_compared(self):
        engine = faulty_engine("hidden", FOUR)
        engine.perform("low", ("box", "east"))
        engine.perform("east", ("insert", low(1), 0, "line", ""))
        name = (("east", "", 1),)
        answers = [engine.perform(level, ("delete", name))[1] for level in ("low", "west", "top", "east")]
        self.assertEqual(answers, ["own", "own", "own", 1])

    def test_heavy(self):
        engines = named("heavy")
        both(engines, ("low", ("insert", (), 0, "list", "")), ("low", ("pocket", low(1), 0, "high", "")), ("high", ("insert", low(2), 0, "line", "")))
        for name in (low(2), low(1)):
            self.assertEqual(engines[0].perform("low", ("delete", name)), ("refused", "heavy", name))
        self.assertEqual(engines[0].perform("low", ("script", 'delete(node("low.1"));'))[2][::2], ("deed", ("heavy", low(1))))
        self.assertEqual(engines[0].perform("low", ("delete", low(3))), ("refused", "name", low(3)))
        self.assertEqual(engines[0].perform("high", ("delete", low(1))), ("refused", "own", low(1)))
        both(engines, ("low", ("move", low(2), (), 0)), ("low", ("delete", low(1))), ("high", ("delete", high(1))), ("low", ("delete", low(2))))

    def test_heavy_looks_at_the_piece_of_the_level_alone(self):
        engine = faulty_engine("heavy", CHAIN)
        nested(engine)
        self.assertEqual(engine.perform("mid", ("delete", mid(2))), ("refused", "heavy", mid(2)))
        self.assertEqual(engine.perform("high", ("delete", high(1))), ("told", 1))
        self.assertEqual(engine.perform("low", ("delete", low(1))), ("refused", "heavy", low(1)))
        for name in (mid(1), mid(2)):
            self.assertEqual(engine.perform("mid", ("delete", name))[0], "told")
        self.assertEqual(engine.perform("low", ("delete", low(1))), ("told", 2))

    def test_room(self):
        engine = faulty_engine("room", LEVELS, 4)
        for level, deed in [("low", POCKET), ("high", SECRET), ("high", SECRET)]:
            engine.perform(level, deed)
        self.assertEqual([engine.room("low"), engine.room("high")], [1, 1])
        typed = ("typed", ("a", "", (("b", "", ()),)), (), 0)
        self.assertEqual(engine.perform("low", typed), ("refused", "full", 4))
        self.assertEqual(engine.perform("low", LINE), ("told", low(2)))
        for deed in (LINE, POCKET, ("copy", low(2), (), 0)):
            self.assertEqual(engine.perform("low", deed), ("refused", "full", 4))
        self.assertEqual(engine.perform("high", SECRET), ("refused", "full", 4))
        self.assertEqual(engine.perform("low", ("script", 'insert(node("/"), 0, "line", "");'))[2][::2], ("deed", ("full", 4)))
        # What is in the box of a pocket that was deleted is there all the same.
        self.assertEqual(engine.perform("low", ("delete", low(1))), ("told", 1))
        self.assertEqual([engine.room("low"), engine.room("high")], [1, 1])
        self.assertEqual(engine.perform("high", ("delete", high(1))), ("told", 1))
        self.assertEqual(engine.room("low"), 2)

    def test_steps(self):
        text = 'n = 0; while n < 54 { n = n + 1; } tell n;'
        engine = faulty_engine("steps", LEVELS)
        needed = [steps for steps in range(1, 401) if run_script(Script.read(text), Desk(engine, "low"), steps)[0][0] == "told"][0]
        self.assertTrue(380 < needed < 400, needed)
        for _ in range(10):
            engine.perform("low", ("box", "high"))
        made = 10
        while made < 400 - needed:
            self.assertEqual(engine.perform("low", ("script", text)), ("told", (("number", 54),)))
            engine.perform("high", ("insert", low(1), 0, "line", ""))
            engine.perform("high", UNDO)
            made += 1
        self.assertEqual(engine.perform("low", ("script", text))[0], "told")
        engine.perform("low", LINE)
        self.assertEqual(engine.perform("low", ("script", text)), ("refused", "script", ("steps", needed - 1, needed - 1)))
        # The steps are those at the beginning of the script, which may make nodes.
        self.assertEqual(engine.perform("low", ("script", 'insert(node("/"), 0, "a", "");'))[0], "told")

    def test_steps_are_at_least_none(self):
        engine = faulty_engine("steps", LEVELS)
        payload = ("a", "", tuple(("b", "", ()) for _ in range(39)))
        for _ in range(11):
            engine.perform("low", ("typed", payload, (), 0))
            engine.perform("low", UNDO)
        self.assertEqual(engine.perform("low", ("script", "tell 1;")), ("refused", "script", ("steps", 0, 0)))
        self.assertEqual(engine.perform("low", EMPTY), ("told", ()))

    def test_shown(self):
        engines = named("shown", FOUR)
        both(engines, ("low", ("pocket", (), 0, "east", "e")), ("low", ("pocket", (), 1, "west", "")), ("low", ("pocket", (), 2, "top", "x" * 200)))
        self.assertEqual(texts(engines[0], "low"), ["e", "", "x" * 200])
        both(engines, ("east", ("insert", low(1), 0, "line", "")), ("west", ("insert", low(2), 0, "line", "")), ("top", ("insert", low(3), 0, "line", "")))
        self.assertEqual(texts(engines[0], "low"), ["e*", "*", "x" * 200 + "*"])
        self.assertEqual(texts(engines[0], "east"), ["e", "*", "x" * 200 + "*"])
        self.assertEqual(texts(engines[0], "top"), ["e", "", "x" * 200])
        self.assertEqual(engines[0].perform("low", ("script", 'tell text(node("low.1"));')), ("told", (("text", "e*"),)))
        self.assertEqual(Desk(engines[0], "low").view()[low(2)][1], "*")
        both(engines, ("low", ("change", low(1), "f")), ("east", ("delete", (("east", "", 1),))))
        self.assertEqual(texts(engines[0], "low")[:2], ["f", "*"])

    def test_states_know_what_is_shown(self):
        one, other = faulty_engine("shown", LEVELS), faulty_engine("shown", LEVELS)
        both((one, other), ("low", POCKET))
        one.perform("high", SECRET)
        self.assertNotEqual(one.state("low"), other.state("low"))
        for engine in (one, other):
            engine.perform("low", ("delete", low(1)))
        self.assertEqual(one.state("low"), other.state("low"))


class UndoTests(unittest.TestCase):
    def test_one_list_for_all_levels(self):
        engine = faulty_engine("undos", LEVELS)
        for level, deed in [("low", POCKET), ("high", SECRET), ("low", ("change", low(1), "q")), ("high", ("change", high(1), "t"))]:
            engine.perform(level, deed)
        self.assertEqual(engine.perform("low", UNDO), ("told", "change"))
        self.assertEqual([texts(engine, "high"), texts(engine, "high", low(1))], [["q"], ["s"]])
        self.assertEqual(engine.perform("high", UNDO), ("told", "change"))
        self.assertEqual([texts(engine, "high"), texts(engine, "high", low(1))], [["p"], ["s"]])
        self.assertEqual(engine.perform("low", UNDO), ("told", "insert"))
        self.assertEqual([texts(engine, "high", low(1)), engine.room("low"), engine.room("high")], [[], 39, 40])
        self.assertEqual(engine.perform("high", REDO), ("told", "insert"))
        self.assertEqual([engine.room("low"), engine.room("high")], [39, 39])
        self.assertEqual([engine.perform("low", REDO), engine.perform("low", REDO), engine.perform("low", REDO)],
                         [("told", "change"), ("told", "change"), ("refused", "nothing", None)])
        self.assertEqual([texts(engine, "high"), texts(engine, "high", low(1))], [["q"], ["t"]])
        self.assertEqual([engine.perform("high", UNDO) for _ in range(5)],
                         [("told", "change"), ("told", "change"), ("told", "insert"), ("told", "pocket"), ("refused", "nothing", None)])

    def test_an_accepted_deed_of_any_level_empties_the_list_of_what_can_be_redone(self):
        engine = faulty_engine("undos", LEVELS)
        for level, deed in [("low", POCKET), ("low", LINE), ("low", UNDO), ("high", EMPTY)]:
            self.assertEqual(engine.perform(level, deed)[0], "told")
        self.assertEqual(engine.perform("low", REDO), ("refused", "nothing", None))
        self.assertEqual([engine.perform("low", UNDO), engine.perform("low", UNDO)], [("told", "script"), ("told", "pocket")])

    def test_a_script_is_one_of_the_deeds(self):
        engine = faulty_engine("undos", LEVELS)
        script = ("script", 'p = node("low.1"); insert(p, 0, "line", "a"); insert(p, 0, "line", "b");')
        for level, deed in [("low", POCKET), ("high", script), ("high", SECRET)]:
            self.assertEqual(engine.perform(level, deed)[0], "told")
        self.assertEqual([engine.perform("low", UNDO), engine.perform("low", UNDO)], [("told", "insert"), ("told", "script")])
        self.assertEqual([texts(engine, "high", low(1)), texts(engine, "low")], [[], ["p"]])
        self.assertEqual([engine.perform("low", REDO), texts(engine, "high", low(1))], [("told", "script"), ["b", "a"]])

    def test_states_know_the_list(self):
        one, other = faulty_engine("undos", FOUR), faulty_engine("undos", FOUR)
        both((one, other), ("low", ("box", "east")))
        one.perform("east", ("insert", low(1), 0, "line", ""))
        self.assertNotEqual(one.state("west"), other.state("west"))

    def test_redos(self):
        engines = named("redos", FOUR)
        both(engines, ("low", ("box", "east")), ("low", ("box", "west")), ("east", ("insert", low(1), 0, "line", "")), ("east", UNDO), ("low", LINE), ("low", UNDO))
        both(engines, ("west", ("insert", low(2), 0, "line", "")), ("west", UNDO))
        for engine in engines:
            self.assertEqual(engine.perform("west", REDO), ("told", "insert"))
        for level, word in [("low", "insert"), ("east", "insert")]:
            self.assertEqual(engines[0].perform(level, REDO), ("refused", "nothing", None))
            self.assertEqual(engines[1].perform(level, REDO), ("told", word))

    def test_undo_and_redo_and_what_is_refused_empty_no_list(self):
        engine = faulty_engine("redos", LEVELS)
        for level, deed in [("low", POCKET), ("high", SECRET), ("low", LINE), ("low", UNDO), ("high", UNDO), ("high", REDO)]:
            self.assertEqual(engine.perform(level, deed)[0], "told")
        for deed in [("script", "tell 1"), ("delete", low(9)), None]:
            self.assertEqual(engine.perform("high", deed)[0], "refused")
        self.assertEqual(engine.perform("low", REDO), ("told", "insert"))
        for level, deed in [("low", UNDO), ("high", EMPTY)]:
            self.assertEqual(engine.perform(level, deed)[0], "told")
        self.assertEqual(engine.perform("low", REDO), ("refused", "nothing", None))


class BoxTests(unittest.TestCase):
    def test_emptied(self):
        engine, plain = nested(faulty_engine("emptied", CHAIN)), nested(Engine(CHAIN))
        self.assertEqual([each.perform("low", ("delete", low(1))) for each in (engine, plain)], [("told", 2)] * 2)
        # The box of the pocket is empty; that of the deeper one, which is of another level, is loose and stays.
        self.assertEqual(plain.view("mid").attic()[0][0], low(2))
        self.assertEqual(engine.view("mid").attic(), ((low(2), "mid", ()),))
        self.assertEqual([row[:2] for row in engine.view("high").attic()], [(low(2), "mid"), (mid(3), "high")])
        self.assertEqual(texts(engine, "high", mid(3)), ["z"])
        self.assertEqual([engine.room(level) for level in CHAIN.names()], [40, 40, 39])
        self.assertEqual([engine.perform(level, UNDO) for level in ("mid", "high")], [("refused", "nothing", None), ("told", "insert")])
        self.assertEqual(engine.perform("low", UNDO), ("told", "delete"))
        self.assertEqual([texts(engine, "mid", low(1)), engine.room("low")], [["p"], 38])

    def test_emptied_lists_to_redo_and_boxes_without_nodes(self):
        engine = nested(faulty_engine("emptied", CHAIN))
        for level, deed in [("high", UNDO), ("mid", ("change", mid(1), "v")), ("mid", UNDO)]:
            self.assertEqual(engine.perform(level, deed)[0], "told")
        self.assertEqual(engine.perform("mid", ("delete", mid(2))), ("told", 2))
        # The box of the deeper pocket held nothing, so its level keeps its lists.
        self.assertEqual(engine.perform("high", REDO), ("told", "insert"))
        self.assertEqual(engine.perform("mid", UNDO), ("told", "delete"))
        self.assertEqual(texts(engine, "high", mid(3)), ["z"])
        self.assertEqual(engine.perform("low", ("delete", low(2))), ("told", 1))
        self.assertEqual([engine.perform("mid", deed) for deed in (UNDO, REDO)], [("refused", "nothing", None)] * 2)

    def test_emptied_in_a_script(self):
        engine = nested(faulty_engine("emptied", CHAIN))
        self.assertEqual(engine.perform("low", ("script", 'try { delete(node("low.1")); tell 1 + "a"; }'))[0], "told")
        self.assertEqual([texts(engine, "mid", low(2)), engine.twin().perform("mid", UNDO)], [["x", "y"], ("told", "pocket")])
        self.assertEqual(engine.perform("low", ("script", 'delete(node("low.1"));')), ("told", ()))
        self.assertEqual([texts(engine, "mid", low(2)), engine.perform("mid", UNDO)], [[], ("refused", "nothing", None)])
        self.assertEqual(engine.room("mid"), 40)

    def test_nodes_that_lower_levels_copied_take_no_room(self):
        engine = nested(faulty_engine("emptied", CHAIN))
        engine.perform("low", ("copy", low(1), (), 1))
        self.assertEqual(engine.perform("low", ("delete", (*low(1), ("low", "", 3)))), ("told", 2))
        self.assertEqual([engine.room(level) for level in CHAIN.names()], [38, 37, 39])
        self.assertEqual(texts(engine, "mid", low(2)), ["x", "y"])

    def test_shallow(self):
        engine = nested(faulty_engine("shallow", CHAIN))
        mark = ("low", "", 3)
        self.assertEqual(engine.perform("low", ("copy", low(1), (), 1)), ("told", (*low(1), mark)))
        self.assertEqual(texts(engine, "low", (*low(1), mark)), ["p"])
        self.assertEqual([texts(engine, "mid", (*low(2), mark)), texts(engine, "mid", low(2))], [[], ["x", "y"]])
        # The copy of the deeper pocket is not there; its box is loose, and empty too.
        self.assertEqual([engine.view("mid").attic(), engine.view("high").attic()], [(), (((*mid(3), mark), "high", ()),)])
        self.assertNotIn((*mid(2), mark), engine.view("high"))
        self.assertEqual(engine.perform("mid", ("insert", (*low(2), mark), 0, "line", "new")), ("told", mid(4)))
        self.assertEqual(engine.perform("high", ("insert", (*mid(3), mark), 0, "line", "new")), ("told", high(2)))
        self.assertEqual([engine.perform("low", UNDO), engine.perform("low", REDO)], [("told", "copy")] * 2)
        self.assertEqual(texts(engine, "mid", (*low(2), mark)), ["new"])

    def test_shallow_copies_without_pockets_are_whole(self):
        engines = named("shallow")
        both(engines, ("low", ("typed", ("a", "t", (("b", "u", ()),)), (), 0)), ("low", ("copy", low(1), low(1), 1)))
        self.assertEqual(engines[0].view("low"), engines[1].view("low"))

    def test_stolen(self):
        engine = nested(faulty_engine("stolen", CHAIN))
        mark = ("low", "", 3)
        self.assertEqual(engine.perform("low", ("copy", low(1), (), 1)), ("told", (*low(1), mark)))
        view = engine.view("high")
        self.assertEqual([view.holds(low(2)), view.holds((*low(2), mark))], [(), (mid(1), mid(2))])
        self.assertEqual([view[mid(1)][4], view.holds(mid(2)), view.holds(mid(3))], [(*low(2), mark), (mid(3),), (high(1),)])
        # The copy of the deeper pocket is not there; its box is loose, with what was copied.
        self.assertEqual([row[:2] for row in view.attic()], [((*mid(3), mark), "high")])
        self.assertEqual(view.holds((*mid(3), mark)), ((*high(1), mark),))
        for name in (mid(1), mid(2), mid(3)):
            self.assertNotIn((*name, mark), view)
        self.assertEqual([engine.room(level) for level in CHAIN.names()], [36, 37, 39])
        self.assertEqual(engine.perform("mid", ("move", mid(1), low(2), 0)), ("told", None))
        self.assertEqual([texts(engine, "mid", low(2)), texts(engine, "mid", (*low(2), mark))], [["x"], ["y"]])

    def test_stolen_by_the_level_of_the_pocket_alone(self):
        engine = nested(faulty_engine("stolen", CHAIN))
        mark = ("mid", "", 4)
        self.assertEqual(engine.perform("mid", ("copy", mid(2), low(2), 0)), ("told", (*mid(2), mark)))
        self.assertEqual([texts(engine, "high", mid(3)), texts(engine, "high", (*mid(3), mark))], [[], ["z"]])
        self.assertEqual(texts(engine, "mid", low(2)), ["y", "x", "y"])

    def test_what_undo_leads_to_can_be_looked_at(self):
        for fault in ("emptied", "stolen", "shallow"):
            for seed in range(30):
                levels = ORDERS[seed % 4]
                busy = Busy(seed, faulty_engine(fault, levels, 30))
                for _ in range(40):
                    level = busy.chance.choice(levels.names())
                    answer_to(busy.engine, level, busy.call(level))
                    for each in levels.names():
                        for ask in ASKING:
                            self.assertEqual(answer_to(busy.engine, each, ask)[0], "told")
                        self.assertTrue(all(name in busy.engine.view(each) for name in busy.engine.view(each).walk()))


if __name__ == "__main__":
    unittest.main()
