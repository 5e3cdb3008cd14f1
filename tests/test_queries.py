"""Tests of conditions, paths, sizes, orders, groups and differences ([11])."""

import itertools
import random
import unittest

from helpers import diamond, high, low, told, two_levels
from maskededits.errors import InvalidQuery, InvalidView, NotSeen
from maskededits.queries import (
    Condition, Difference, Path, any_node, closed_pockets, compare_views, from_loose, from_root, grouped_by, of_kind,
    of_level, size_below, sorted_by, with_text)
from model import history

NO_WORDS = ["", "Line", "ninesigns", "a b", 1, None, True, b"line", ("line",), ["line"], {"line": 1}, ()]
NO_CONDITIONS = [None, 1, True, "line", (), [], from_root(), from_loose(), of_kind, Condition, ("kind", "line")]
NO_PATHS = [None, 0, "", (), [()], {}, of_kind("line"), from_root, Path, ("root",)]
NO_NAMES = [None, 1, "low.1", (), [("low", "", 1)], (("low", "", 9),), (("low", "", True),), ("low", "", 1), {}, set()]


def garden():
    """Returns an engine with nodes at several depths, pockets that stand and loose boxes of both levels.

    low.1 list, in it low.2 line and low.3 pocket (high.1 item, in it high.2 line); low.4 line; boxes low.5 (empty)
    and low.6 (high.3 line); high.4 item in low.6.
    """
    engine = two_levels()
    told(engine, "low", ("insert", (), 0, "list", "plans"), ("insert", low(1), 0, "line", "one"),
         ("pocket", low(1), 1, "high", "notes"), ("insert", (), 1, "line", "two"),
         ("box", "high"), ("pocket", (), 0, "high", "gone"))
    told(engine, "high", ("insert", low(3), 0, "item", "our plans"), ("insert", high(1), 0, "line", "deep"),
         ("insert", low(6), 0, "line", "one more"), ("insert", low(6), 1, "item", ""))
    told(engine, "low", ("delete", low(6)))
    return engine


ALL = [(), low(1), low(2), low(3), high(1), high(2), low(4), low(5), low(6), high(3), high(4)]
NODES = [name for name in ALL if name not in ((), low(5), low(6))]


class ConditionTests(unittest.TestCase):
    def setUp(self):
        self.high, self.low = garden().view("high"), garden().view("low")

    def fitting(self, condition, view=None):
        view = view or self.high
        return [name for name in view.walk() if condition(view, name)]

    def test_each_condition(self):
        self.assertEqual(self.fitting(of_kind("line")), [low(2), high(2), low(4), high(3)])
        self.assertEqual(self.fitting(of_kind("pocket")), [low(3)])
        self.assertEqual(self.fitting(of_kind("none")), [])
        self.assertEqual(self.fitting(with_text("plans")), [low(1), high(1)])
        self.assertEqual(self.fitting(with_text("one")), [low(2), high(3)])
        self.assertEqual(self.fitting(with_text("")), NODES)
        self.assertEqual(self.fitting(with_text("x" * 500)), [])
        self.assertEqual(self.fitting(of_level("low")), [low(1), low(2), low(3), low(4)])
        self.assertEqual(self.fitting(of_level("high")), [high(1), high(2), high(3), high(4)])
        self.assertEqual(self.fitting(of_level("mid")), [])
        self.assertEqual(self.fitting(any_node()), NODES)
        self.assertEqual(self.fitting(closed_pockets()), [])
        self.assertEqual(self.fitting(closed_pockets(), self.low), [low(3)])
        self.assertIs(of_kind("line")(self.high, low(2)), True)
        self.assertIs(of_kind("line")(self.high, low(1)), False)

    def test_words_of_other_kinds_are_refused(self):
        for thing in NO_WORDS:
            for make in (of_kind, of_level):
                with self.assertRaises(InvalidQuery) as caught:
                    make(thing)
                self.assertIs(caught.exception.value, thing)
        for thing in [None, 1, True, b"a", ("a",), ["a"], {}, of_kind("line")]:
            with self.assertRaises(InvalidQuery) as caught:
                with_text(thing)
            self.assertIs(caught.exception.value, thing)

    def test_operators(self):
        line, one = of_kind("line"), with_text("one")
        self.assertEqual(self.fitting(line & one), [low(2), high(3)])
        self.assertEqual(self.fitting(line | with_text("plans")), [low(1), low(2), high(1), high(2), low(4), high(3)])
        self.assertEqual(self.fitting(~line), [low(1), low(3), high(1), high(4)])
        self.assertEqual(self.fitting(~~line), self.fitting(line))
        self.assertEqual(self.fitting(~line & of_level("high")), [high(1), high(4)])
        self.assertEqual(self.fitting(~(line | of_level("high"))), [low(1), low(3)])
        self.assertEqual(self.fitting(line & of_level("low") | of_kind("pocket")), [low(2), low(3), low(4)])
        for made in (line & one, line | one, ~line):
            self.assertIsInstance(made, Condition)

    def test_what_is_no_condition_is_refused(self):
        for thing in NO_CONDITIONS:
            for operate in (lambda a, b: a & b, lambda a, b: a | b):
                with self.assertRaises(InvalidQuery) as caught:
                    operate(of_kind("line"), thing)
                self.assertIs(caught.exception.value, thing)

    def test_names_that_are_not_seen(self):
        for view, things in [(self.high, NO_NAMES), (self.low, [*NO_NAMES, high(1), low(5), low(6)])]:
            for thing in [*things, low(5), low(6)]:
                for condition in (any_node(), ~any_node(), of_kind("line") | any_node(), closed_pockets()):
                    with self.assertRaises(NotSeen) as caught:
                        condition(view, thing)
                    self.assertIs(caught.exception.value, thing)

    def test_equal_conditions_were_made_in_the_same_way(self):
        def made():
            a, b, c = of_kind("line"), with_text("line"), of_level("line")
            return [a, b, c, with_text(""), of_kind("item"), closed_pockets(), any_node(), ~a, ~~a, a & b, b & a, a | b,
                    b | a, (a & b) & c, a & (b & c), (a | b) | c, a | (b | c), ~(a & b), ~a & ~b, a & a, a | a]
        for (at, one), (place, other) in itertools.product(enumerate(made()), enumerate(made())):
            self.assertEqual(one == other, at == place, (at, place))
            self.assertEqual(one != other, at != place)
        for thing in [*NO_CONDITIONS, ("kind", "line"), of_kind("line").__dict__]:
            self.assertFalse(of_kind("line") == thing)
            self.assertTrue(of_kind("line") != thing)
        self.assertFalse(any_node() == from_root())

    def test_a_hundred_operators(self):
        condition = of_kind("line")
        for _ in range(50):
            condition = ~(condition & any_node())
        self.assertEqual(self.fitting(condition), self.fitting(of_kind("line")))
        path = from_root()
        for _ in range(100):
            path = path | from_loose()
        self.assertEqual(path(self.high), [(), low(5), low(6)])


class PathTests(unittest.TestCase):
    def setUp(self):
        self.high, self.low = garden().view("high"), garden().view("low")

    def test_beginnings(self):
        self.assertEqual([from_root()(self.high), from_loose()(self.high)], [[()], [low(5), low(6)]])
        self.assertEqual([from_root()(self.low), from_loose()(self.low)], [[()], []])

    def test_steps_from_the_root(self):
        self.assertEqual((from_root() >> any_node())(self.high), [low(1), low(4)])
        self.assertEqual((from_root() >> of_kind("line"))(self.high), [low(4)])
        self.assertEqual((from_root() // any_node())(self.high), [low(1), low(2), low(3), high(1), high(2), low(4)])
        self.assertEqual((from_root() // of_kind("line"))(self.high), [low(2), high(2), low(4)])
        self.assertEqual((from_root() >> any_node() >> any_node())(self.high), [low(2), low(3)])
        self.assertEqual((from_root() >> any_node() >> any_node() >> any_node())(self.high), [high(1)])
        self.assertEqual((from_root() // of_kind("pocket") // any_node())(self.high), [high(1), high(2)])
        self.assertEqual((from_root() // any_node() // any_node())(self.high), [low(2), low(3), high(1), high(2)])

    def test_closed_pockets_hold_nothing(self):
        self.assertEqual((from_root() // any_node())(self.low), [low(1), low(2), low(3), low(4)])
        self.assertEqual((from_root() // closed_pockets())(self.low), [low(3)])
        self.assertEqual((from_root() // closed_pockets() >> any_node())(self.low), [])
        self.assertEqual((from_root() // closed_pockets() // any_node())(self.low), [])

    def test_steps_from_loose_boxes(self):
        self.assertEqual((from_loose() >> any_node())(self.high), [high(3), high(4)])
        self.assertEqual((from_loose() // of_kind("item"))(self.high), [high(4)])
        self.assertEqual((from_loose() // any_node())(self.low), [])

    def test_operators(self):
        everything = from_root() | from_loose()
        self.assertEqual(everything(self.high), [(), low(5), low(6)])
        self.assertEqual((from_loose() | from_root())(self.high), [(), low(5), low(6)])
        self.assertEqual((everything // any_node())(self.high), NODES)
        self.assertEqual((everything | everything // any_node())(self.high), ALL)
        self.assertEqual((everything // any_node() - from_root() // any_node())(self.high), [high(3), high(4)])
        self.assertEqual((everything // of_kind("line") & from_loose() >> any_node())(self.high), [high(3)])
        self.assertEqual((from_loose() >> any_node() | from_root() >> any_node())(self.high),
                         [low(1), low(4), high(3), high(4)])
        self.assertEqual((everything - from_loose())(self.high), [()])
        self.assertEqual((from_root() & from_loose())(self.high), [])
        self.assertEqual(((from_root() // any_node() | everything) // of_kind("line"))(self.high),
                         [low(2), high(2), low(4), high(3)])
        for made in (everything, everything & everything, everything - everything, everything >> any_node(),
                     everything // any_node()):
            self.assertIsInstance(made, Path)

    def test_what_is_no_condition_or_no_path_is_refused(self):
        for thing in NO_CONDITIONS:
            for operate in (lambda a, b: a >> b, lambda a, b: a // b):
                with self.assertRaises(InvalidQuery) as caught:
                    operate(from_root(), thing)
                self.assertIs(caught.exception.value, thing)
        for thing in NO_PATHS:
            for operate in (lambda a, b: a | b, lambda a, b: a & b, lambda a, b: a - b):
                with self.assertRaises(InvalidQuery) as caught:
                    operate(from_root(), thing)
                self.assertIs(caught.exception.value, thing)

    def test_equal_paths_were_made_in_the_same_way(self):
        def made():
            a, b, c, d = from_root(), from_loose(), of_kind("line"), of_level("line")
            return [a, b, a >> c, a // c, a >> d, a // d, b >> c, a | b, b | a, a & b, a - b, b - a, (a | b) | a,
                    a | (b | a), a >> c >> c, (a >> c) // c, a // c >> c, (a >> c) | (b >> c), (a | b) >> c, a >> (c & d),
                    a >> ~c]
        for (at, one), (place, other) in itertools.product(enumerate(made()), enumerate(made())):
            self.assertEqual(one == other, at == place, (at, place))
            self.assertEqual(one != other, at != place)
        for thing in NO_PATHS:
            self.assertFalse(from_root() == thing)

    def test_selections_are_new_lists(self):
        path = from_root() // any_node()
        path(self.high).clear()
        self.assertEqual(len(path(self.high)), 6)

    def test_random_views_against_the_definitions(self):
        for seed in range(40):
            levels = diamond().levels
            calls, _ = history(seed, levels, 40)
            engine = diamond()
            for level, deed, _ in calls:
                engine.perform(level, deed)
            for level in levels.names():
                view = engine.view(level)
                order = self.document_order(view)
                everything = from_root() | from_loose()
                self.assertEqual((everything | everything // any_node())(view), order)
                for kind in ("line", "pocket"):
                    fitting = [name for name in order if name in view and view[name][0] == kind]
                    self.assertEqual((everything // of_kind(kind))(view), fitting)
                    below = [name for name in order if name in view and view[name][4] in fitting]
                    self.assertEqual((everything // of_kind(kind) >> any_node())(view), below)
                    deep = [name for name in order if name in view and set(view.path(name)[:-1]) & set(fitting)]
                    self.assertEqual((everything // of_kind(kind) // any_node())(view), deep)
                for name in order:
                    many = len([each for each in view.walk() if name in view.path(each)])
                    self.assertEqual(size_below(view, name), many)

    def document_order(self, view):
        def below(branches):
            return [name for branch in branches for name in [branch[0], *below(branch[4] or ())]]
        return [(), *below(view.tree()), *[name for box in view.attic() for name in [box[0], *below(box[2])]]]


class SizeTests(unittest.TestCase):
    def test_sizes(self):
        view = garden().view("high")
        sizes = {(): 6, low(1): 5, low(2): 1, low(3): 3, high(1): 2, high(2): 1, low(4): 1, low(5): 0, low(6): 2,
                 high(3): 1, high(4): 1}
        self.assertEqual({name: size_below(view, name) for name in ALL}, sizes)
        closed = garden().view("low")
        self.assertEqual([size_below(closed, name) for name in ((), low(1), low(3), low(4))], [4, 3, 1, 1])

    def test_names_that_are_not_seen(self):
        for view, things in [(garden().view("high"), []), (garden().view("low"), [low(5), low(6), high(1)])]:
            for thing in [*[name for name in NO_NAMES if name != ()], *things, high(9)]:
                with self.assertRaises(NotSeen) as caught:
                    size_below(view, thing)
                self.assertIs(caught.exception.value, thing)


class OrderTests(unittest.TestCase):
    def setUp(self):
        self.view = garden().view("high")

    def test_sorted_by_each_key(self):
        names = list(reversed(NODES))
        self.assertEqual(sorted_by(self.view, names, "kind"),
                         [high(1), high(4), low(2), high(2), low(4), high(3), low(1), low(3)])
        self.assertEqual(sorted_by(self.view, names, "text"),
                         [high(4), high(2), low(3), low(2), high(3), high(1), low(1), low(4)])
        self.assertEqual(sorted_by(self.view, names, "level"),
                         [high(1), high(2), high(3), high(4), low(1), low(2), low(3), low(4)])
        self.assertEqual(sorted_by(self.view, names, "size"),
                         [low(2), high(2), low(4), high(3), high(4), high(1), low(3), low(1)])

    def test_levels_are_sorted_as_texts(self):
        engine = diamond()
        told(engine, "low", ("pocket", (), 0, "east", ""), ("pocket", (), 1, "top", ""), ("pocket", (), 2, "west", ""))
        for index, level in enumerate(["east", "top", "west"]):
            told(engine, level, ("insert", low(index + 1), 0, "line", ""))
        names = [(("west", "", 1),), (("top", "", 1),), low(1), (("east", "", 1),)]
        self.assertEqual([name[0][0] for name in sorted_by(engine.view("top"), names, "level")],
                         ["east", "low", "top", "west"])

    def test_some_names_and_names_that_stand_twice(self):
        names = [low(4), high(3), low(4), low(1), high(3), low(4)]
        self.assertEqual(sorted_by(self.view, names, "kind"), [low(4), high(3), low(1)])
        self.assertEqual(grouped_by(self.view, names, "kind"), {"line": [low(4), high(3)], "list": [low(1)]})
        self.assertEqual(names, [low(4), high(3), low(4), low(1), high(3), low(4)])
        self.assertEqual([sorted_by(self.view, [], "text"), grouped_by(self.view, [], "text")], [[], {}])

    def test_grouped_by_each_key(self):
        names = list(reversed(NODES))
        self.assertEqual(grouped_by(self.view, names, "kind"), {
            "list": [low(1)], "line": [low(2), high(2), low(4), high(3)], "pocket": [low(3)],
            "item": [high(1), high(4)]})
        self.assertEqual(grouped_by(self.view, names, "level"), {
            "low": [low(1), low(2), low(3), low(4)], "high": [high(1), high(2), high(3), high(4)]})
        self.assertEqual(grouped_by(self.view, names, "size"), {
            1: [low(2), high(2), low(4), high(3), high(4)], 2: [high(1)], 3: [low(3)], 5: [low(1)]})
        groups = grouped_by(self.view, [low(1), high(4), low(4)], "text")
        self.assertEqual(groups, {"plans": [low(1)], "": [high(4)], "two": [low(4)]})

    def test_errors_in_their_order(self):
        for act in (sorted_by, grouped_by):
            for key in ["", "name", "sizes", "Kind", 1, None, True, ("kind",), ["kind"], {}, b"kind", "inner", "holder"]:
                with self.assertRaises(InvalidQuery) as caught:
                    act(self.view, [low(99)], key)
                self.assertIs(caught.exception.value, key)
            for thing in [*NO_NAMES, low(5), low(6)]:
                with self.assertRaises(NotSeen) as caught:
                    act(self.view, [low(1), thing, low(98)], "size")
                self.assertIs(caught.exception.value, thing)


class DifferenceTests(unittest.TestCase):
    def lists(self, difference):
        return [difference.gone, difference.new, difference.changed, difference.moved]

    def test_equal_views(self):
        view = garden().view("high")
        difference = compare_views(view, garden().view("high"))
        self.assertIsInstance(difference, Difference)
        self.assertEqual(self.lists(difference), [[], [], [], []])
        self.assertFalse(difference)
        self.assertIs(bool(difference), False)

    def test_each_list(self):
        def behind(*deeds):
            engine = garden()
            for level, deed in deeds:
                told(engine, level, deed)
            return self.lists(compare_views(garden().view("high"), engine.view("high")))
        self.assertEqual(behind(("low", ("delete", low(1)))), [[low(1), low(2), low(3)], [], [], []])
        self.assertEqual(behind(("low", ("insert", (), 0, "line", "")), ("high", ("insert", low(5), 0, "line", ""))),
                         [[], [low(7), high(5)], [], []])
        self.assertEqual(behind(("low", ("change", low(4), "x")), ("high", ("change", high(3), "y")),
                                ("low", ("change", low(1), "x"))), [[], [], [low(1), low(4), high(3)], []])
        self.assertEqual(behind(("low", ("move", low(2), (), 0))), [[], [], [], [low(2)]])
        self.assertEqual(behind(("low", ("move", low(3), (), 0))), [[], [], [], [low(3)]])
        self.assertEqual(behind(("high", ("move", high(4), high(3), 0)), ("high", ("change", high(4), "!"))),
                         [[], [], [high(4)], [high(4)]])
        self.assertEqual(behind(("low", ("copy", low(1), (), 0)))[1][0], (*low(1)[:1], ("low", "", 7)))
        self.assertEqual(behind(("low", ("delete", low(4))), ("low", ("undo",))), [[], [], [], []])

    def test_the_order_of_the_lists(self):
        one, other = garden(), garden()
        told(one, "low", ("insert", (), 2, "line", "a"), ("insert", (), 0, "line", "b"))
        told(other, "low", ("insert", low(1), 0, "line", "c"), ("insert", (), 0, "line", "d"),
             ("insert", (), 0, "line", "e"))
        difference = compare_views(one.view("low"), other.view("low"))
        self.assertEqual(self.lists(difference), [[], [low(9)], [low(8), low(7)], [low(7)]])
        swapped = garden()
        told(swapped, "low", ("change", low(4), "x"), ("change", low(1), "x"), ("move", low(4), (), 0))
        difference = compare_views(garden().view("low"), swapped.view("low"))
        self.assertEqual(difference.changed, [low(4), low(1)])
        self.assertEqual(compare_views(swapped.view("low"), garden().view("low")).changed, [low(1), low(4)])

    def test_gone_stands_in_the_order_of_the_first_view(self):
        engine = garden()
        told(engine, "low", ("move", low(4), (), 0))
        one = engine.view("low")
        told(engine, "low", ("delete", low(1)), ("delete", low(4)))
        self.assertEqual(compare_views(one, engine.view("low")).gone, [low(4), low(1), low(2), low(3)])

    def test_levels_of_boxes_that_go_loose(self):
        engine = garden()
        told(engine, "low", ("delete", low(3)))
        difference = compare_views(garden().view("high"), engine.view("high"))
        self.assertEqual(self.lists(difference), [[low(3)], [], [], []])

    def test_a_shortest_list_of_moved_ones(self):
        chance = random.Random(5)
        for _ in range(60):
            engine = two_levels()
            told(engine, "low", ("insert", (), 0, "list", ""), *[("insert", low(1), 0, "line", "")] * 6)
            one = engine.view("low")
            for _ in range(4):
                names = [name for name in engine.view("low").walk() if name != low(1)]
                holder = chance.choice([(), low(1), low(1)])
                many = len([name for name in engine.view("low").holds(holder)])
                engine.perform("low", ("move", chance.choice(names), holder, chance.randrange(many)))
            other = engine.view("low")
            moved = compare_views(one, other).moved
            self.assertEqual(moved, [name for name in other.walk() if name in moved])
            self.assertTrue(self.stays_alike(one, other, moved))
            names = list(one.walk())
            for many in range(len(moved)):
                for fewer in itertools.combinations(names, many):
                    self.assertFalse(self.stays_alike(one, other, fewer))

    def stays_alike(self, one, other, moved):
        names = [name for name in one.walk() if name in other and name not in moved]
        if any(one[name][4] != other[name][4] for name in names):
            return False
        return all([each for each in one.holds(holder) if each in names] ==
                   [each for each in other.holds(holder) if each in names] for holder in {one[n][4] for n in names})

    def test_what_is_no_view_and_views_of_other_levels(self):
        low_view, high_view = garden().view("low"), garden().view("high")
        for thing in [None, 0, (), "view", [], garden(), low_view.tree()]:
            for one, other in [(thing, low_view), (low_view, thing), (thing, 5)]:
                with self.assertRaises(InvalidView) as caught:
                    compare_views(one, other)
                self.assertIs(caught.exception.value, thing)
        for one, other in [(low_view, high_view), (high_view, low_view),
                           (diamond().view("east"), diamond().view("west"))]:
            with self.assertRaises(InvalidView) as caught:
                compare_views(one, other)
            self.assertIs(caught.exception.value, other)

    def test_truth_and_equality(self):
        def behind(*deeds):
            engine = garden()
            told(engine, "low", *deeds)
            return compare_views(garden().view("low"), engine.view("low"))
        deeds = [(), (("delete", low(4)),), (("insert", (), 0, "line", ""),), (("change", low(4), "x"),),
                 (("move", low(4), low(1), 0),)]
        for at, one in enumerate(deeds):
            self.assertIs(bool(behind(*one)), at > 0)
            for place, other in enumerate(deeds):
                self.assertEqual(behind(*one) == behind(*other), at == place)
        self.assertEqual(behind(("change", low(4), "x")), behind(("change", low(4), "y")))
        self.assertNotEqual(behind(("change", low(4), "x")), behind(("change", low(1), "x")))
        for thing in [None, False, (), ([], [], [], []), [[], [], [], []], any_node()]:
            self.assertFalse(behind() == thing)

    def test_the_lists_are_new(self):
        difference = compare_views(garden().view("low"), two_levels().view("low"))
        difference.gone.clear()
        difference.new.append(1)
        self.assertEqual(self.lists(difference), [[low(1), low(2), low(3), low(4)], [], [], []])


if __name__ == "__main__":
    unittest.main()
