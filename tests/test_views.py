"""Tests of the class View ([2], [10])."""

import itertools
import types
import unittest
from unittest import mock

from helpers import diamond, high, low, told, two_levels
from maskededits.engine import Engine
from maskededits.errors import NotSeen
from maskededits.levels import Levels
from maskededits.views import View

EAST, WEST, TOP = (("east", "", 1),), (("west", "", 1),), (("top", "", 1),)
NO_NAMES = [None, "", "/", "low.1", 1, True, [], {}, ("low", "", 1), [("low", "", 1)], (("low", "", True),),
            (("low", "", 1.0),), (["low", "", 1],), low(9), low(1) + low(1), object(), mock.ANY, b"", {1}]


def filled():
    """Returns an engine of four levels with nodes of each, closed pockets and loose boxes.

    low.1 holds low.2; low.3 [east] holds east.1, which holds east.2; low.4 [west] holds west.1 and the pocket
    west.2 [top] with top.1. low.5 [top] is loose and holds top.2; low.6 [east] is loose and holds east.3 [top].
    """
    engine = diamond()
    told(engine, "low", ("typed", ("list", "one", (("item", "two", ()),)), (), 0), ("pocket", (), 1, "east", "e"),
         ("pocket", (), 2, "west", "w"), ("pocket", (), 3, "top", "t"), ("pocket", low(1), 1, "east", "f"))
    told(engine, "east", ("typed", ("list", "x", (("item", "y", ()),)), low(3), 0),
         ("pocket", low(6), 0, "top", "et"))
    told(engine, "west", ("insert", low(4), 0, "item", "z"), ("pocket", low(4), 1, "top", "wt"))
    told(engine, "top", ("insert", (("west", "", 2),), 0, "item", "u"), ("insert", low(5), 0, "item", "v"))
    told(engine, "low", ("delete", low(5)), ("delete", low(6)))
    return engine


class SeenTests(unittest.TestCase):
    def refused(self, call, value):
        with self.assertRaises(NotSeen) as caught:
            call(value)
        self.assertIs(caught.exception.value, value)

    def test_the_example(self):
        engine = two_levels()
        told(engine, "low", ("pocket", (), 0, "high", "plans"))
        told(engine, "high", ("insert", low(1), 0, "line", "secret"))
        told(engine, "low", ("delete", low(1)))
        self.assertEqual([engine.view("low").tree(), engine.view("high").attic(), len(engine.view("high"))],
                         [(), ((low(1), "high", ((high(1), "line", "secret", None, ()),)),), 1])

    def test_which_names_are_seen(self):
        engine = filled()
        seen = {
            "low": [low(1), low(2), low(3), low(4)],
            "east": [low(1), low(2), low(3), EAST, (("east", "", 2),), low(4), (("east", "", 3),)],
            "west": [low(1), low(2), low(3), low(4), WEST, (("west", "", 2),)],
            "top": [low(1), low(2), low(3), EAST, (("east", "", 2),), low(4), WEST, (("west", "", 2),), TOP,
                    (("top", "", 2),), (("east", "", 3),)],
        }
        for level, names in seen.items():
            view = engine.view(level)
            self.assertIsInstance(view, View)
            self.assertEqual(list(view.walk()), names)
            self.assertEqual(len(view), len(names))
            for name in seen["top"]:
                self.assertIs(name in view, name in names)

    def test_what_is_no_name_of_a_seen_node(self):
        view = filled().view("east")
        for value in [*NO_NAMES, (), low(5), low(6), TOP, WEST]:
            self.assertIs(value in view, False, repr(value))
            self.refused(lambda name: view[name], value)
            self.refused(view.path, value)

    def test_parts_of_nodes(self):
        view = filled().view("top")
        self.assertEqual(view[low(1)], ("list", "one", "low", None, ()))
        self.assertEqual(view[low(2)], ("item", "two", "low", None, low(1)))
        self.assertEqual(view[low(3)], ("pocket", "e", "low", "east", ()))
        self.assertEqual(view[EAST], ("list", "x", "east", None, low(3)))
        self.assertEqual(view[(("east", "", 3),)], ("pocket", "et", "east", "top", low(6)))
        self.assertEqual(filled().view("low")[low(3)], ("pocket", "e", "low", "east", ()))

    def test_holds(self):
        engine = filled()
        view = engine.view("east")
        self.assertEqual(view.holds(()), (low(1), low(3), low(4)))
        self.assertEqual(view.holds(low(1)), (low(2),))
        self.assertEqual(view.holds(low(2)), ())
        self.assertEqual(view.holds(low(3)), (EAST,))
        self.assertIsNone(view.holds(low(4)))
        self.assertEqual(view.holds(low(6)), ((("east", "", 3),),))
        self.assertIsNone(view.holds((("east", "", 3),)))
        self.assertEqual(engine.view("low").holds(()), (low(1), low(3), low(4)))
        for value in [*NO_NAMES, low(5), TOP, WEST, (("west", "", 2),)]:
            self.refused(view.holds, value)
        for value in [low(5), low(6)]:
            self.refused(engine.view("low").holds, value)

    def test_paths(self):
        view = filled().view("top")
        self.assertEqual(view.path(low(1)), ((), low(1)))
        self.assertEqual(view.path(low(2)), ((), low(1), low(2)))
        self.assertEqual(view.path((("east", "", 2),)), ((), low(3), EAST, (("east", "", 2),)))
        self.assertEqual(view.path(TOP), ((), low(4), (("west", "", 2),), TOP))
        self.assertEqual(view.path((("top", "", 2),)), (low(5), (("top", "", 2),)))
        self.assertEqual(view.path((("east", "", 3),)), (low(6), (("east", "", 3),)))

    def test_loose(self):
        engine = filled()
        self.assertEqual(engine.view("low").loose, {})
        self.assertEqual(engine.view("west").loose, {})
        self.assertEqual(engine.view("east").loose, {low(6): "east"})
        self.assertEqual(engine.view("top").loose, {low(5): "top", low(6): "east"})

    def test_loose_is_set_on_each_view_and_changing_it_does_not_change_the_view(self):
        view = filled().view("top")
        self.assertIn("loose", vars(view))
        view.loose.clear()
        self.assertEqual(len(view.attic()), 2)
        self.assertEqual(view, filled().view("top"))


class TreeTests(unittest.TestCase):
    def test_tree(self):
        engine = filled()
        list_branch = (low(1), "list", "one", None, ((low(2), "item", "two", None, ()),))
        self.assertEqual(engine.view("low").tree(), (
            list_branch, (low(3), "pocket", "e", "east", None), (low(4), "pocket", "w", "west", None)))
        self.assertEqual(engine.view("east").tree(), (
            list_branch, (low(3), "pocket", "e", "east", (
                (EAST, "list", "x", None, (((("east", "", 2),), "item", "y", None, ()),)),)),
            (low(4), "pocket", "w", "west", None)))

    def test_attic(self):
        engine = filled()
        self.assertEqual([engine.view("low").attic(), engine.view("west").attic()], [(), ()])
        loose = (low(6), "east", (((("east", "", 3),), "pocket", "et", "top", None),))
        self.assertEqual(engine.view("east").attic(), (loose,))
        self.assertEqual(engine.view("top").attic(), (
            (low(5), "top", (((("top", "", 2),), "item", "v", None, ()),)),
            (low(6), "east", (((("east", "", 3),), "pocket", "et", "top", ()),))))

    def test_loose_boxes_stand_in_ascending_order_of_names(self):
        engine = two_levels()
        for source in ["", "b", "a"]:
            for _ in range(11):
                engine.perform("low", ("box", "high"), source)
        told(engine, "low", ("pocket", (), 0, "high", ""))
        engine.perform("low", ("copy", low(12), (), 0), "", ("low", "", 20))
        told(engine, "low", ("delete", low(12)), ("delete", (*low(12), ("low", "", 20))))
        names = [row[0] for row in engine.view("high").attic()]
        self.assertEqual(names, sorted(names))
        self.assertEqual(names[:13], [low(number) for number in range(1, 13)] + [(*low(12), ("low", "", 20))])
        self.assertEqual(len(names), 35)

    def test_walk_yields_and_goes_box_by_box(self):
        engine = two_levels()
        for _ in range(2):
            engine.perform("low", ("box", "high"))
        told(engine, "high", ("insert", low(2), 0, "line", ""), ("insert", low(1), 0, "line", ""),
             ("insert", low(1), 0, "line", ""), ("insert", high(3), 0, "line", ""))
        told(engine, "low", ("insert", (), 0, "line", ""))
        walk = engine.view("high").walk()
        self.assertIsInstance(walk, types.GeneratorType)
        self.assertEqual(list(walk), [low(3), high(3), high(4), high(2), high(1)])

    def test_deep_documents(self):
        engine = Engine(Levels(["low", "high"]), limit=60)
        holder = ()
        for _ in range(59):
            holder = told(engine, "low", ("insert", holder, 0, "line", ""))[0]
        told(engine, "low", ("pocket", holder, 0, "high", ""))
        holder = low(60)
        for _ in range(40):
            holder = told(engine, "high", ("insert", holder, 0, "line", ""))[0]
        view = engine.view("high")
        self.assertEqual([len(view), len(list(view.walk())), len(view.path(holder))], [100, 100, 101])
        depth, branches = 0, view.tree()
        while branches:
            depth, branches = depth + 1, branches[0][4]
        self.assertEqual(depth, 100)

    def test_a_view_is_not_iterated(self):
        with self.assertRaises(TypeError):
            list(two_levels().view("low"))


class KeptTests(unittest.TestCase):
    def test_a_view_stays_as_it_was(self):
        engine = filled()
        views = {level: engine.view(level) for level in engine.levels.names()}
        told(engine, "low", ("undo",), ("delete", low(1)), ("change", low(3), "new"), ("copy", low(4), (), 0),
             ("move", low(4), (), 0), ("insert", (), 0, "line", "new"))
        told(engine, "top", ("change", TOP, "new"), ("delete", (("top", "", 2),)))
        fresh = filled()
        for level, view in views.items():
            self.assertEqual(view, fresh.view(level))
            self.assertEqual([view.tree(), view.attic(), view.loose, len(view)],
                             [fresh.view(level).tree(), fresh.view(level).attic(), fresh.view(level).loose,
                              len(fresh.view(level))])
            self.assertNotEqual(view, engine.view(level))


class JoinTests(unittest.TestCase):
    def test_both_and_one_of_them(self):
        engine = filled()
        views = {level: engine.view(level) for level in engine.levels.names()}
        for one, other in itertools.product(views, views):
            both, either = views[one] & views[other], views[one] | views[other]
            shown, more = set(views[one].walk()), set(views[other].walk())
            self.assertEqual(set(both.walk()), shown & more)
            self.assertEqual(set(either.walk()), shown | more)
            self.assertEqual(both, views[engine.levels.meet(one, other)])
            self.assertEqual([len(both), len(either)], [len(shown & more), len(shown | more)])
            if engine.levels.leq(one, other):
                self.assertEqual([both, either], [views[one], views[other]])

    def test_what_levels_that_cannot_be_compared_show_together(self):
        engine = filled()
        either = engine.view("east") | engine.view("west")
        self.assertEqual(list(either.walk()), [low(1), low(2), low(3), EAST, (("east", "", 2),), low(4), WEST,
                                               (("west", "", 2),), (("east", "", 3),)])
        self.assertIsNone(either.holds((("west", "", 2),)))
        self.assertEqual(either.holds(low(4)), (WEST, (("west", "", 2),)))
        self.assertEqual(either.loose, {low(6): "east"})
        self.assertEqual(either.path(WEST), ((), low(4), WEST))
        self.assertEqual(either[EAST], engine.view("top")[EAST])
        self.assertEqual(either, engine.view("west") | engine.view("east"))
        self.assertNotEqual(either, engine.view("top"))
        self.assertEqual(either & engine.view("top"), either)
        self.assertEqual(either | engine.view("top"), engine.view("top"))
        self.assertEqual((engine.view("east") & engine.view("west")).tree(), engine.view("low").tree())

    def test_the_views_themselves_do_not_change(self):
        engine = filled()
        one, other = engine.view("east"), engine.view("west")
        both, either = one & other, one | other
        both.loose[low(9)] = "east"
        either.loose.clear()
        self.assertEqual([one, other], [engine.view("east"), engine.view("west")])
        self.assertEqual([one.loose, other.loose], [{low(6): "east"}, {}])


class EqualityTests(unittest.TestCase):
    def test_equal_views(self):
        self.assertTrue(filled().view("top") == filled().view("top"))
        self.assertFalse(filled().view("top") != filled().view("top"))

    def test_views_of_other_levels(self):
        engine = diamond()
        told(engine, "low", ("insert", (), 0, "line", ""))
        for one, other in itertools.permutations(engine.levels.names(), 2):
            self.assertFalse(engine.view(one) == engine.view(other))
        self.assertEqual(two_levels().view("low"), Engine(Levels(["low", "mid"])).view("low"))
        self.assertNotEqual(two_levels().view("high"), Engine(Levels(["low", "mid"])).view("mid"))

    def test_history_does_not_count(self):
        one, other = two_levels(), two_levels()
        told(one, "low", ("insert", (), 0, "line", "a"))
        told(other, "low", ("insert", (), 0, "line", "b"), ("change", low(1), "a"))
        self.assertEqual(one.view("low"), other.view("low"))

    def test_nodes_texts_order_and_boxes(self):
        def engine_with(*deeds):
            engine = two_levels()
            told(engine, "low", ("insert", (), 0, "line", "a"), ("insert", (), 1, "line", "b"),
                 ("pocket", (), 2, "high", "p"), *deeds)
            return engine

        first = engine_with()
        for deed in [("change", low(1), "c"), ("move", low(1), (), 1), ("move", low(1), low(2), 0),
                     ("delete", low(1)), ("delete", low(3)), ("insert", (), 0, "line", "a")]:
            for level in ["low", "high"]:
                self.assertNotEqual(first.view(level), engine_with(deed).view(level))
        box = engine_with(("box", "high"))
        self.assertEqual(first.view("low"), box.view("low"))
        self.assertNotEqual(first.view("high"), box.view("high"))
        kinds = two_levels()
        told(kinds, "low", ("insert", (), 0, "item", "a"))
        lines = two_levels()
        told(lines, "low", ("insert", (), 0, "line", "a"))
        self.assertNotEqual(kinds.view("low"), lines.view("low"))

    def test_levels_of_loose_boxes(self):
        views = []
        for inner in ["mid", "high"]:
            engine = Engine(Levels(["low", "mid", "high"], [("mid", "high")]))
            told(engine, "low", ("box", inner))
            views.append(engine.view("high"))
        self.assertNotEqual(*views)

    def test_a_view_is_equal_to_nothing_else(self):
        view = filled().view("top")
        for thing in [None, (), view.tree(), list(view.walk()), len(view), "view", True, object(), mock.ANY]:
            self.assertFalse(view == thing)
            self.assertTrue(view != thing)


if __name__ == "__main__":
    unittest.main()
