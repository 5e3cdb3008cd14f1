"""Tests of clock, log, room, twin, view and state ([9])."""

import unittest

from helpers import all_seen, diamond, high, low, seen_of, texts, told, two_levels
from maskededits.engine import Engine
from maskededits.levels import Levels

INSERT = ("insert", (), 0, "line", "a")
UNDO, REDO = ("undo",), ("redo",)
EAST, WEST = (("east", "", 1),), (("west", "", 1),)


def busy():
    """Returns an engine of four levels in which each level has done something."""
    engine = diamond(limit=5)
    told(engine, "low", ("pocket", (), 0, "east", "e"), ("pocket", (), 1, "west", "w"), ("pocket", (), 2, "top", "t"))
    told(engine, "east", ("insert", low(1), 0, "line", "x"), ("insert", low(1), 0, "line", "y"), UNDO)
    told(engine, "west", ("insert", low(2), 0, "line", "z"))
    told(engine, "top", ("insert", low(3), 0, "line", "u"), ("change", (("top", "", 1),), "v"), UNDO, REDO)
    return engine


class CountingTests(unittest.TestCase):
    def test_clocks_of_every_level(self):
        engine = busy()
        self.assertEqual([engine.clock(level) for level in engine.levels.names()], [3, 6, 4, 11])
        engine.perform("east", ("insert", (), 0, "line", ""))
        engine.perform("east", None)
        self.assertEqual([engine.clock(level) for level in engine.levels.names()], [3, 6, 4, 11])

    def test_logs_of_every_level(self):
        engine = busy()
        self.assertEqual(engine.log("low")[1:], [
            (("pocket", (), 1, "west", "w"), low(2)), (("pocket", (), 2, "top", "t"), low(3))])
        self.assertEqual(engine.log("east"), [
            (("insert", low(1), 0, "line", "x"), EAST),
            (("insert", low(1), 0, "line", "y"), (("east", "", 2),)), (UNDO, "insert")])
        self.assertEqual(engine.log("west"), [(("insert", low(2), 0, "line", "z"), WEST)])
        self.assertEqual([entry[1] for entry in engine.log("top")], [(("top", "", 1),), "u", "change", "change"])

    def test_rooms_of_every_level(self):
        self.assertEqual([busy().room(level) for level in ["low", "east", "west", "top"]], [2, 4, 4, 4])

    def test_views_of_every_level(self):
        self.assertEqual([len(busy().view(level)) for level in ["low", "east", "west", "top"]], [3, 4, 4, 6])

    def test_a_log_that_is_returned_is_new(self):
        engine = busy()
        log = engine.log("low")
        log.clear()
        self.assertEqual(len(engine.log("low")), 3)
        self.assertIsInstance(engine.log("low"), list)

    def test_equal_calls_return_equal_results(self):
        engine = busy()
        self.assertEqual(all_seen(engine), all_seen(engine))


class TwinTests(unittest.TestCase):
    def test_a_twin_is_in_the_same_state(self):
        engine = busy()
        self.assertEqual(all_seen(engine.twin()), all_seen(engine))
        self.assertEqual(engine.twin().limit, 5)

    def test_twin_and_engine_are_independent(self):
        engine = busy()
        before = all_seen(engine)
        twin = engine.twin()
        told(twin, "low", INSERT, ("copy", low(1), (), 0), ("change", low(2), "new"), ("delete", low(3)), UNDO)
        told(twin, "east", REDO, ("move", (("east", "", 2),), low(1), 1), UNDO, ("box", "top"))
        told(twin, "top", UNDO, ("script", 'change(node("top.1"), "w");'))
        self.assertEqual(all_seen(engine), before)
        after = all_seen(twin)
        told(engine, "low", ("delete", low(1)), ("delete", low(2)), UNDO, UNDO, UNDO)
        told(engine, "east", REDO, UNDO, UNDO)
        told(engine, "west", ("script", 'delete(node("west.1"));'), ("insert", low(2), 0, "line", "new"))
        self.assertEqual(all_seen(twin), after)

    def test_a_twin_undoes_what_the_engine_has_done(self):
        twin = busy().twin()
        self.assertEqual(told(twin, "east", REDO, UNDO, UNDO), ["insert", "insert", "insert"])
        self.assertEqual(twin.perform("east", UNDO), ("refused", "nothing", None))
        self.assertEqual(told(twin, "low", ("insert", (), 0, "line", "")), [low(4)])
        self.assertEqual(twin.perform("low", ("insert", (), 0, "line", ""), "", ("low", "pad", 1))[0], "told")

    def test_a_twin_knows_the_marks_that_are_drawn(self):
        engine = two_levels()
        engine.perform("low", INSERT, "", ("low", "pad", 5))
        twin = engine.twin()
        self.assertEqual(twin.perform("low", INSERT, "pad"), ("told", low(6, "pad")))
        with self.assertRaises(ValueError):
            twin.perform("low", INSERT, "", ("low", "pad", 5))


class StateTests(unittest.TestCase):
    def states(self, *rows, levels=("low", "high"), limits=(40, 40)):
        """Returns for two rows of calls whether the states of each level are equal."""
        engines = []
        for row, limit in zip(rows, limits):
            engine = Engine(Levels(["low", "high"]), limit=limit)
            for level, *deeds in row:
                told(engine, level, *deeds)
            engines.append(engine)
        return [engines[0].state(level) == engines[1].state(level) for level in levels]

    def test_equal_states(self):
        self.assertEqual(self.states([], []), [True, True])
        row = [("low", INSERT, ("pocket", (), 0, "high", "p")), ("high", ("insert", low(2), 0, "line", "s"), UNDO)]
        self.assertEqual(self.states(row, row), [True, True])
        self.assertEqual(busy().state("top"), busy().state("top"))
        other = [("low", INSERT, ("pocket", (), 0, "high", "p"))]
        self.assertEqual(self.states(row, other), [True, False])

    def test_the_order_between_levels_that_cannot_be_compared_does_not_count(self):
        one, other = diamond(), diamond()
        for engine, words in [(one, ["east", "west"]), (other, ["west", "east"])]:
            told(engine, "low", ("pocket", (), 0, "east", ""), ("pocket", (), 1, "west", ""))
            for word in words:
                told(engine, word, ("insert", low(1 if word == "east" else 2), 0, "line", ""))
        for level in one.levels.names():
            self.assertEqual(one.state(level), other.state(level))

    def test_refused_calls_do_not_count(self):
        one, other = two_levels(), two_levels()
        for deed in [None, ("undo",), ("insert", (), 3, "line", ""), ("script", "tell"), ("box", "low")]:
            other.perform("low", deed)
        self.assertEqual(one.state("high"), other.state("high"))

    def test_texts_kinds_and_order(self):
        for deed in [("insert", (), 0, "line", "b"), ("insert", (), 0, "item", "a"), ("pocket", (), 0, "high", "a")]:
            self.assertEqual(self.states([("low", INSERT)], [("low", deed)]), [False, False], deed)
        one = [("low", INSERT, ("insert", (), 0, "line", "a"))]
        other = [("low", INSERT, ("insert", (), 1, "line", "a"))]
        self.assertEqual(self.states(one, other), [False, False])

    def test_attics(self):
        start = [("low", ("pocket", (), 0, "high", ""), ("pocket", (), 1, "high", "")),
                 ("high", ("insert", low(1), 0, "line", "")), ("low", ("delete", low(2)))]
        other = start[:2] + [("low", ("delete", low(1)))]
        self.assertEqual(self.states(start, other), [False, False])
        other = start[:1] + [("high", ("insert", low(2), 0, "line", "")), ("low", ("delete", low(2)))]
        self.assertEqual(self.states(start, other), [True, False])

    def test_rooms(self):
        self.assertEqual(self.states([], [], limits=(40, 39)), [False, False])

    def test_numbers_of_each_source(self):
        one, other, third = two_levels(), two_levels(), two_levels()
        for engine, marks in [(one, [("low", "", 2), ("low", "", 1)]), (other, [("low", "", 1), ("low", "", 2)]),
                              (third, [("low", "pad", 1), ("low", "", 1)])]:
            for mark in marks:
                engine.perform("low", INSERT, "", mark)
        self.assertNotEqual(one.state("low"), other.state("low"))
        self.assertNotEqual(one.state("low"), third.state("low"))
        self.assertNotEqual(other.state("low"), third.state("low"))

    def test_clocks(self):
        one = [("low", INSERT, ("change", low(1), "a"))]
        self.assertEqual(self.states(one, [("low", INSERT)]), [False, False])
        two = [("low", INSERT, UNDO, REDO)]
        self.assertEqual(self.states(two, [("low", INSERT)]), [False, False])
        three = [("low", INSERT, ("pocket", (), 0, "high", "")), ("high", ("script", ""), UNDO)]
        self.assertEqual(self.states(three, three[:1]), [True, False])

    def test_what_can_be_undone_by_its_word(self):
        move = [("low", INSERT, ("insert", (), 1, "line", "b"), ("move", low(1), (), 1))]
        script = [("low", INSERT, ("insert", (), 1, "line", "b"), ("script", 'move(node("low.1"), node("/"), 1);'))]
        self.assertEqual(self.states(move, script), [False, False])

    def test_what_can_be_undone_by_what_leads_back(self):
        one = [("low", ("insert", (), 0, "line", "b"), ("change", low(1), "c"), ("change", low(1), "a"))]
        other = [("low", ("insert", (), 0, "line", "b"), ("change", low(1), "d"), ("change", low(1), "a"))]
        self.assertEqual(self.states(one, other), [False, False])

    def test_what_can_be_redone(self):
        one = [("low", INSERT, ("change", low(1), "c"), UNDO)]
        other = [("low", INSERT, ("change", low(1), "d"), UNDO)]
        self.assertEqual(self.states(one, other), [False, False])
        moved = [("low", INSERT, ("move", low(1), (), 0), UNDO)]
        self.assertEqual(self.states(one, moved), [False, False])

    def test_nodes_that_are_not_there_any_more(self):
        one = [("low", INSERT, ("insert", (), 0, "line", "b"), ("delete", low(1)))]
        other = [("low", ("insert", (), 0, "line", "c"), ("insert", (), 0, "line", "b"), ("delete", low(1)))]
        self.assertEqual(self.states(one, other), [False, False])

    def test_nodes_that_cannot_come_back(self):
        one = [("low", INSERT, UNDO, INSERT)]
        other = [("low", ("insert", (), 0, "line", "c"), UNDO, INSERT)]
        self.assertEqual(self.states(one, other), [False, False])

    def test_what_a_deleted_node_holds(self):
        rows = []
        for place in [0, 1]:
            rows.append([("low", INSERT, ("insert", low(1), 0, "line", "b"), ("insert", low(1), place, "line", "b"),
                          ("delete", low(1)))])
        self.assertEqual(self.states(*rows), [False, False])

    def test_what_copied_boxes_and_nodes_in_them_hold(self):
        start = [("low", ("pocket", (), 0, "high", "")),
                 ("high", ("typed", ("list", "", (("item", "a", ()), ("item", "b", ()))), low(1), 0),
                  ("insert", low(1), 1, "line", ""))]
        copied = ("low", ("copy", low(1), (), 0))
        for moved in [("move", high(2), high(1), 1), ("move", high(4), low(1), 0)]:
            rows = [start + [copied, ("high", moved)], start + [("high", moved), copied]]
            self.assertEqual(self.states(*rows), [True, False], moved)

    def test_the_order_in_which_levels_are_listed_does_not_count(self):
        states = []
        for names in [["low", "east", "west", "top"], ["low", "west", "east", "top"]]:
            engine = Engine(Levels(names, [("east", "top"), ("west", "top")]))
            told(engine, "low", ("pocket", (), 0, "east", ""), ("pocket", (), 1, "west", ""))
            told(engine, "east", ("insert", low(1), 0, "line", ""))
            states.append(engine.state("top"))
        self.assertEqual(*states)

    def test_levels_below_count_and_others_do_not(self):
        engine, other = busy(), busy()
        told(other, "east", ("change", EAST, "new"))
        self.assertEqual([engine.state(level) == other.state(level) for level in engine.levels.names()],
                         [True, False, True, False])
        told(engine, "low", ("delete", low(2)))
        self.assertEqual([engine.state(level) == other.state(level) for level in engine.levels.names()],
                         [False, False, False, False])

    def test_what_a_level_does_not_see_is_not_in_its_state(self):
        engine, other = busy(), busy()
        told(other, "low", ("copy", low(3), (), 0))
        told(other, "top", ("change", (("top", "", 1),), "other"))
        told(engine, "low", ("copy", low(3), (), 0))
        self.assertEqual(engine.state("west"), other.state("west"))
        self.assertNotEqual(engine.state("top"), other.state("top"))

    def test_a_state_stays_as_it_was(self):
        engine = busy()
        state = engine.state("top")
        told(engine, "low", INSERT, ("delete", low(1)))
        told(engine, "top", UNDO)
        self.assertEqual(state, busy().state("top"))

    def test_states_and_logs_go_through_twins(self):
        engine = busy()
        self.assertEqual(seen_of(engine.twin().twin(), "top"), seen_of(engine, "top"))
        self.assertEqual(texts(engine.twin(), "low"), ["e", "w", "t"])


if __name__ == "__main__":
    unittest.main()
