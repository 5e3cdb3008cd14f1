"""Tests of calls, leaks and wrong answers ([28] to [30], [32], [33])."""

import unittest

from busy import ASKING, ORDERS, busy_calls, busy_cases
from helpers import diamond, high, low, told, two_levels
from maskededits.checker import answer_to, answers_to, first_leak, first_wrong, shortened_calls
from maskededits.engine import Engine
from maskededits.errors import InvalidLevel, InvalidNumber, NoFault
from maskededits.faults import FAULTS, faulty_engine
from maskededits.levels import Levels

LEVELS = Levels(["low", "high"])
FOUR = Levels(["low", "east", "west", "top"], [("east", "top"), ("west", "top")])
NO_LEVELS = [None, "", "none", 0, ["low"], ("low",), {}, True]
NO_LIMITS = [0, 61, None, True, "4", 1.5]
POCKET = ("pocket", (), 0, "high", "p")
SECRET = ("insert", low(1), 0, "line", "s")
LINE = ("insert", (), 0, "line", "")
CLOCK, LOOK, ROOM, LOG = ("clock",), ("look",), ("room",), ("log",)
# For each fault calls of which the last one leaks at the level low.
LEAKS = {
    "numbers": [("low", POCKET), ("high", SECRET), ("low", LINE)],
    "clock": [("high", ("script", "")), ("low", CLOCK)],
    "hidden": [("low", POCKET), ("high", SECRET), ("low", ("delete", high(1)))],
    "heavy": [("low", POCKET), ("high", SECRET), ("low", ("delete", low(1)))],
    "room": [("low", POCKET), ("high", SECRET), ("low", ROOM)],
    "undos": [("high", ("script", "")), ("low", ("undo",))],
    "redos": [("low", LINE), ("low", ("undo",)), ("high", ("script", "")), ("low", ("redo",))],
    "steps": [("low", POCKET), *[("high", SECRET)] * 20, ("low", ("script", "n = 0; while n < 55 { n = n + 1; }"))],
    "shown": [("low", POCKET), ("high", SECRET), ("low", LOOK)],
}


def log_of(levels, calls, fault="", limit=40):
    return [(level, deed, answer) for (level, deed), answer in zip(calls, answers_to(levels, calls, fault, limit))]


def leak_slowly(levels, calls, fault, limit):
    """Returns the first leak, searched among all calls that leak."""
    found, whole = [], answers_to(levels, calls, fault, limit)
    for place, level in enumerate(levels.names()):
        kept = [index for index in range(len(calls)) if levels.leq(calls[index][0], level)]
        alone = answers_to(levels, [calls[index] for index in kept], fault, limit)
        found += [(index, place, answer) for index, answer in zip(kept, alone) if answer != whole[index]]
    if not found:
        return None
    index, place, answer = min(found, key=lambda row: row[:2])
    return (index, levels.names()[place], whole[index], answer)


class AnswerTests(unittest.TestCase):
    def test_each_call_that_asks_at_each_level(self):
        for seed in range(20):
            levels = ORDERS[seed % len(ORDERS)]
            engine = busy_calls(seed, levels, 30)[1]
            for level in levels.names():
                view, states = engine.view(level), [engine.state(each) for each in levels.names()]
                self.assertEqual(answer_to(engine, level, LOOK), ("told", (view.tree(), view.attic())))
                self.assertEqual(answer_to(engine, level, CLOCK), ("told", engine.clock(level)))
                self.assertEqual(answer_to(engine, level, ROOM), ("told", engine.room(level)))
                self.assertEqual(answer_to(engine, level, LOG), ("told", tuple(engine.log(level))))
                self.assertEqual([engine.state(each) for each in levels.names()], states)

    def test_what_is_told_by_small_engines(self):
        engine = two_levels(limit=5)
        self.assertEqual([answer_to(engine, "high", deed) for deed in ASKING], [("told", ((), ())), ("told", 0), ("told", 5), ("told", ())])
        told(engine, "low", POCKET)
        self.assertEqual(answer_to(engine, "low", LOOK), ("told", (((low(1), "pocket", "p", "high", None),), ())))
        self.assertEqual(answer_to(engine, "low", LOG), ("told", ((POCKET, low(1)),)))
        self.assertEqual([answer_to(engine, "high", deed)[1] for deed in (CLOCK, ROOM, LOG)], [1, 5, ()])

    def test_deeds(self):
        engine = two_levels()
        self.assertEqual(answer_to(engine, "low", POCKET), ("told", low(1)))
        self.assertEqual(answer_to(engine, "low", SECRET), ("refused", "name", low(1)))
        self.assertEqual(answer_to(engine, "high", SECRET), ("told", high(1)))
        self.assertEqual(answer_to(engine, "low", ("undo",)), ("told", "pocket"))
        self.assertEqual([engine.clock("low"), engine.clock("high")], [2, 3])

    def test_wrong_deeds(self):
        engine = two_levels()
        for deed in [None, 0, "look", "clock", ["look"], (), ("look", 1), ("clock", None), ("Look",), (None,), (["look"],), (("look",),), {}, ("view",)]:
            self.assertEqual(answer_to(engine, "low", deed), ("refused", "deed", deed))
        self.assertEqual(engine.clock("low"), 0)

    def test_wrong_levels(self):
        for level in NO_LEVELS:
            for deed in [*ASKING, LINE, None]:
                with self.assertRaises(InvalidLevel) as caught:
                    answer_to(two_levels(), level, deed)
                self.assertIs(caught.exception.value, level)

    def test_engines_with_faults(self):
        engine = faulty_engine("clock", LEVELS)
        answer_to(engine, "high", ("script", ""))
        self.assertEqual(answer_to(engine, "low", CLOCK), ("told", 1))


class CallsTests(unittest.TestCase):
    def test_shortened_calls(self):
        calls = [("low", LINE), ("east", None), ("west", LINE), ("top", CLOCK), ("low", CLOCK), ("east", LINE)]
        due = {"low": [0, 4], "east": [0, 1, 4, 5], "west": [0, 2, 4], "top": [0, 1, 2, 3, 4, 5]}
        for level in FOUR.names():
            self.assertEqual(shortened_calls(FOUR, calls, level), due[level])
            self.assertEqual(shortened_calls(FOUR, tuple(calls), level), due[level])
            self.assertEqual(shortened_calls(FOUR, [], level), [])

    def test_answers_of_a_new_engine(self):
        calls = [("low", POCKET), ("high", SECRET), ("low", SECRET), ("low", CLOCK), ("high", CLOCK), ("high", None)]
        self.assertEqual(answers_to(LEVELS, calls), [
            ("told", low(1)), ("told", high(1)), ("refused", "name", low(1)), ("told", 1), ("told", 2), ("refused", "deed", None)])
        self.assertEqual(answers_to(LEVELS, calls, fault="clock")[3], ("told", 2))
        self.assertEqual(answers_to(LEVELS, calls, "numbers", 40)[1], ("told", high(2)))
        self.assertEqual(answers_to(LEVELS, [("low", LINE), ("low", LINE)], limit=1), [("told", low(1)), ("refused", "full", 1)])
        self.assertEqual(answers_to(LEVELS, []), [])
        self.assertEqual(answers_to(LEVELS, calls), answers_to(LEVELS, calls))

    def test_wrong_arguments(self):
        good = [("low", LINE)]
        for level in NO_LEVELS:
            bad = [*good, (level, LINE), ("worse", LINE)]
            for act in (lambda: shortened_calls(LEVELS, good, level), lambda: shortened_calls(LEVELS, [], level),
                        lambda: shortened_calls(LEVELS, bad, "low"), lambda: answers_to(LEVELS, bad), lambda: first_leak(LEVELS, bad),
                        lambda: first_wrong(LEVELS, [("low", LINE, 0), (level, LINE, 0)])):
                with self.assertRaises(InvalidLevel) as caught:
                    act()
                self.assertIs(caught.exception.value, level)
        for fault in [None, "none", 0, ["clock"], {}]:
            for act in (answers_to, first_leak):
                for calls in ([], good):
                    with self.assertRaises(NoFault) as caught:
                        act(LEVELS, calls, fault, 0)
                    self.assertIs(caught.exception.value, fault)
        for limit in NO_LIMITS:
            for act in (lambda: answers_to(LEVELS, [], limit=limit), lambda: first_leak(LEVELS, [], "clock", limit),
                        lambda: first_leak(LEVELS, [], limit=limit), lambda: first_wrong(LEVELS, [], limit)):
                with self.assertRaises(InvalidNumber) as caught:
                    act()
                self.assertIs(caught.exception.value, limit)


class LeakTests(unittest.TestCase):
    def test_each_fault_that_tells_something(self):
        for fault, calls in LEAKS.items():
            found = first_leak(LEVELS, calls, fault)
            self.assertIsInstance(found, tuple)
            self.assertEqual(found[:2], (len(calls) - 1, "low"), fault)
            self.assertEqual(found[2], answers_to(LEVELS, calls, fault)[-1])
            kept = [calls[index] for index in shortened_calls(LEVELS, calls, "low")]
            self.assertEqual(found[3], answers_to(LEVELS, kept, fault)[-1])
            for other in ("", "emptied", "shallow", "stolen"):
                self.assertIsNone(first_leak(LEVELS, calls, other))

    def test_what_is_returned(self):
        self.assertEqual(first_leak(LEVELS, LEAKS["hidden"], "hidden"), (2, "low", ("refused", "own", high(1)), ("refused", "name", high(1))))
        self.assertEqual(first_leak(LEVELS, LEAKS["heavy"], "heavy"), (2, "low", ("refused", "heavy", low(1)), ("told", 1)))
        self.assertEqual(first_leak(LEVELS, LEAKS["room"], "room", 7), (2, "low", ("told", 5), ("told", 6)))
        self.assertEqual(first_leak(LEVELS, LEAKS["numbers"], "numbers"), (2, "low", ("told", low(3)), ("told", low(2))))

    def test_the_least_index_and_the_first_level(self):
        calls = [("top", ("script", "")), ("east", CLOCK), ("low", CLOCK)]
        self.assertEqual(first_leak(FOUR, calls, "clock"), (1, "east", ("told", 1), ("told", 0)))
        self.assertEqual(first_leak(FOUR, [calls[0], calls[2], calls[1]], "clock"), (1, "low", ("told", 1), ("told", 0)))
        # At top, which plays all calls, nothing leaks; at east and at low the same call does.
        calls = [("west", ("script", "")), ("low", CLOCK)]
        self.assertEqual(first_leak(FOUR, calls, "clock"), (1, "low", ("told", 1), ("told", 0)))
        # Low is told nothing else than alone, but east plays without what west did.
        calls = [("west", ("script", "")), ("east", ("script", "")), ("east", CLOCK)]
        self.assertEqual(first_leak(FOUR, calls, "clock"), (2, "east", ("told", 2), ("told", 1)))

    def test_calls_that_are_not_answered_otherwise_do_not_leak(self):
        self.assertIsNone(first_leak(FOUR, [("west", CLOCK), ("low", CLOCK), ("east", None)], "clock"))
        self.assertIsNone(first_leak(LEVELS, [], "clock"))
        self.assertIsNone(first_leak(LEVELS, [("low", ("script", "")), ("high", CLOCK), ("high", LOG)], "clock"))
        for fault in FAULTS:
            for level in LEVELS.names():
                calls = [(level, deed) for _, row in LEAKS.items() for _, deed in row]
                self.assertIsNone(first_leak(LEVELS, calls, fault), (fault, level))

    def test_answers_that_are_refusals(self):
        thing = {"a": [1]}
        self.assertIsNone(first_leak(LEVELS, [("low", thing), ("high", float("nan")), ("low", float("nan"))], "clock"))
        self.assertEqual(first_leak(LEVELS, [("low", LINE), ("high", ("script", "")), ("low", ("undo",))], "undos"),
                         (2, "low", ("told", "script"), ("told", "insert")))

    def test_random_calls_of_engines_with_faults(self):
        found = {fault: 0 for fault in FAULTS}
        for seed, levels, limit, calls in busy_cases(42, 35):
            for fault in FAULTS:
                leak = first_leak(levels, calls, fault, limit)
                self.assertEqual(leak, leak_slowly(levels, calls, fault, limit), (seed, fault))
                found[fault] += leak is not None
        for fault in ("numbers", "room", "undos", "hidden", "clock"):
            self.assertGreater(found[fault], 0, fault)
        self.assertEqual([found[fault] for fault in ("emptied", "shallow", "stolen")], [0, 0, 0])

    def test_engines_without_a_fault_have_no_leak(self):
        for seed, levels, limit, calls in busy_cases(60, 40):
            self.assertIsNone(first_leak(levels, calls, "", limit), seed)
            self.assertIsNone(first_leak(levels, calls, limit=limit), seed)


class WrongTests(unittest.TestCase):
    def test_logs_that_are_due(self):
        self.assertIsNone(first_wrong(LEVELS, []))
        for seed, levels, limit, calls in busy_cases(40, 30):
            self.assertIsNone(first_wrong(levels, log_of(levels, calls, "", limit), limit), seed)

    def test_one_answer_changed_at_each_place(self):
        for seed, levels, limit, calls in busy_cases(10, 20):
            log = log_of(levels, calls, "", limit)
            for index, (level, deed, answer) in enumerate(log):
                for other in [None, ("told",), ("refused", *answer), (*answer, 1), ["told", 1], "told", ("told", ("none",))]:
                    changed = [*log[:index], (level, deed, other), *log[index + 1:]]
                    self.assertEqual(first_wrong(levels, changed, limit), (index, other, answer))

    def test_the_first_one_of_several(self):
        calls = [("low", LINE), ("high", CLOCK), ("low", CLOCK)]
        log = [(level, deed, None) for level, deed in calls]
        self.assertEqual(first_wrong(LEVELS, log), (0, None, ("told", low(1))))
        self.assertEqual(first_wrong(LEVELS, [(*calls[0], ("told", low(1))), *log[1:]]), (1, None, ("told", 1)))

    def test_true_and_false_are_no_numbers(self):
        for level, deed, due in [("low", LINE, ("told", low(1))), ("high", CLOCK, ("told", 1)), ("low", ROOM, ("told", 40))]:
            log = [("low", ("script", ""), ("told", ())), (level, deed, due)]
            self.assertIsNone(first_wrong(LEVELS, log))
        log = [("low", ("script", ""), ("told", ())), ("high", CLOCK, ("told", True))]
        self.assertEqual(first_wrong(LEVELS, log), (1, ("told", True), ("told", 1)))
        log = [("high", CLOCK, ("told", False)), ("high", CLOCK, ("told", 0))]
        self.assertEqual(first_wrong(LEVELS, log), (0, ("told", False), ("told", 0)))
        log = [("high", CLOCK, ("told", 0.0))]
        self.assertEqual(first_wrong(LEVELS, log), (0, ("told", 0.0), ("told", 0)))
        log = [("low", LINE, ("told", (("low", "", True),)))]
        self.assertEqual(first_wrong(LEVELS, log), (0, ("told", (("low", "", True),)), ("told", low(1))))

    def test_refused_values_of_any_kind(self):
        for thing in [None, {}, ["undo"], float("nan"), True, (1, True), object()]:
            log = [("low", thing, ("refused", "deed", thing))]
            self.assertIsNone(first_wrong(LEVELS, log), thing)
            self.assertEqual(first_wrong(LEVELS, [("low", thing, ("told", thing))])[0], 0)

    def test_logs_of_engines_with_faults(self):
        for fault, calls in LEAKS.items():
            log = log_of(LEVELS, calls, fault)
            found = first_wrong(LEVELS, log)
            self.assertIsNotNone(found, fault)
            index, answer, due = found
            self.assertEqual([answer, due], [log[index][2], answers_to(LEVELS, calls)[index]])
            self.assertEqual(log_of(LEVELS, calls)[:index], log[:index])

    def test_what_a_fault_does_to_a_log_is_told_by_the_log_alone(self):
        for fault, last, index in [("emptied", ("delete", low(1)), 3), ("shallow", ("copy", low(1), (), 0), 3), ("stolen", ("copy", low(1), (), 0), 3)]:
            calls = [("low", POCKET), ("high", SECRET), ("low", last), ("high", LOOK)]
            self.assertEqual(first_wrong(LEVELS, log_of(LEVELS, calls, fault))[0], index)

    def test_other_limits(self):
        calls = [("low", LINE), ("low", LINE), ("low", ROOM)]
        log = log_of(LEVELS, calls, limit=2)
        self.assertEqual(first_wrong(LEVELS, log), (2, ("told", 0), ("told", 38)))
        self.assertEqual(first_wrong(LEVELS, log, 1), (1, ("told", low(2)), ("refused", "full", 1)))
        self.assertIsNone(first_wrong(LEVELS, log, limit=2))

    def test_entries_of_levels_that_cannot_be_compared(self):
        engine = diamond()
        calls = [("low", ("box", "east")), ("low", ("box", "west")), ("east", ("insert", low(1), 0, "line", "")), ("west", ("delete", (("east", "", 1),)))]
        log = [(level, deed, engine.perform(level, deed)) for level, deed in calls]
        self.assertIsNone(first_wrong(FOUR, log))
        self.assertIsNone(first_wrong(FOUR, [log[0], log[1], log[3], log[2]]))
        self.assertEqual(first_wrong(FOUR, log[1:])[0], 0)

    def test_the_log_alone_decides(self):
        for seed, levels, limit, calls in busy_cases(21, 25):
            for fault in FAULTS:
                log = log_of(levels, calls, fault, limit)
                found = first_wrong(levels, log, limit)
                plays = {each: Engine(levels, limit=limit) for each in levels.names()}
                due = [{each: answer_to(plays[each], level, deed) for each in levels.ups(level)}[level] for level, deed, _ in log]
                wrong = [index for index in range(len(log)) if log[index][2] != due[index]]
                self.assertEqual(found, (wrong[0], log[wrong[0]][2], due[wrong[0]]) if wrong else None)


if __name__ == "__main__":
    unittest.main()
