"""Tests of the engine and its deeds ([3], [7])."""

import unittest
from unittest import mock

from helpers import all_seen, diamond, high, low, named_tree, texts, told, two_levels
from maskededits.engine import Engine
from maskededits.errors import InvalidLevel, InvalidName, InvalidNumber
from maskededits.levels import Levels

NO_NAMES = [None, "low.1", 1, [], [("low", "", 1)], (("low", "", 0),), (("low", "", True),), (("Low", "", 1),),
            ("low", "", 1), {}, mock.ANY]
NO_NUMBERS = [None, "0", 0.0, True, False, [], (), {}, mock.ANY]
NO_WORDS = [None, "", "Line", "line1", "ninesigns", 3, True, [], ("line",), mock.ANY]
NO_TEXTS = [None, 1, True, "a\n", "\t", "\u00e9", "\x7f", "a" * 201, b"a", [], ("a",), mock.ANY]


class EngineCase(unittest.TestCase):
    def refused(self, engine, level, deed, word, value):
        """Checks a refusal, and that nothing changes by it."""
        before = all_seen(engine)
        answer = engine.perform(level, deed)
        self.assertEqual(answer, ("refused", word, value), deed)
        self.assertIsInstance(answer, tuple)
        self.assertEqual(all_seen(engine), before, deed)
        return answer


class MakingTests(unittest.TestCase):
    def test_limits(self):
        levels = Levels(["low"])
        for limit in [1, 2, 40, 60]:
            self.assertEqual(Engine(levels, limit=limit).room("low"), limit)
        self.assertEqual(Engine(levels).room("low"), 40)

    def test_what_is_no_limit(self):
        for limit in [0, 61, -1, 10 ** 20, True, False, None, "40", 4.0, [], mock.ANY]:
            with self.assertRaises(InvalidNumber) as caught:
                Engine(Levels(["low"]), limit=limit)
            self.assertIs(caught.exception.value, limit)

    def test_limit_is_passed_by_name(self):
        with self.assertRaises(TypeError):
            Engine(Levels(["low"]), 40)

    def test_a_new_engine_is_empty(self):
        engine = two_levels()
        for level in ["low", "high"]:
            self.assertEqual([engine.view(level).tree(), engine.view(level).attic()], [(), ()])
            self.assertEqual([engine.clock(level), engine.log(level), engine.room(level)], [0, [], 40])


class DeedTests(EngineCase):
    def test_the_example(self):
        engine = two_levels()
        done = [engine.perform("low", ("pocket", (), 0, "high", "plans")),
                engine.perform("high", ("insert", low(1), 0, "line", "secret"))]
        self.assertEqual(
            [done, engine.perform("low", ("change", high(1), "x")), engine.perform("low", ("delete", low(1)))],
            [[("told", low(1)), ("told", high(1))], ("refused", "name", high(1)), ("told", 1)])

    def test_insert_at_each_place(self):
        engine = two_levels()
        self.assertEqual(engine.perform("low", ("insert", (), 0, "line", "b")), ("told", low(1)))
        self.assertEqual(engine.perform("low", ("insert", (), 0, "line", "a")), ("told", low(2)))
        self.assertEqual(engine.perform("low", ("insert", (), 2, "line", "d")), ("told", low(3)))
        self.assertEqual(engine.perform("low", ("insert", (), 2, "item", "c")), ("told", low(4)))
        self.assertEqual(engine.perform("low", ("insert", low(4), 0, "item", "e")), ("told", low(5)))
        self.assertEqual(named_tree(engine, "low"), [["a", []], ["b", []], ["c", [["e", []]]], ["d", []]])
        self.assertEqual(engine.view("low")[low(4)], ("item", "c", "low", None, ()))
        self.assertEqual(engine.view("low")[low(5)], ("item", "e", "low", None, low(4)))

    def test_texts_of_no_and_of_200_signs(self):
        engine = two_levels()
        signs = "".join(chr(code) for code in range(32, 127))
        told(engine, "low", ("insert", (), 0, "line", ""), ("insert", (), 1, "line", "x" * 200),
             ("pocket", (), 2, "high", signs))
        self.assertEqual(texts(engine, "low"), ["", "x" * 200, signs])

    def test_pocket_makes_a_box_of_the_inner_level(self):
        engine = two_levels()
        self.assertEqual(engine.perform("low", ("pocket", (), 0, "high", "p")), ("told", low(1)))
        self.assertEqual(engine.view("low").tree(), ((low(1), "pocket", "p", "high", None),))
        self.assertEqual(engine.view("high").tree(), ((low(1), "pocket", "p", "high", ()),))
        self.assertEqual(engine.perform("high", ("insert", low(1), 0, "line", "in")), ("told", high(1)))
        self.assertEqual(engine.view("low").tree(), ((low(1), "pocket", "p", "high", None),))
        self.assertEqual(named_tree(engine, "high"), [["p", [["in", []]]]])

    def test_change_tells_the_old_text(self):
        engine = two_levels()
        told(engine, "low", ("insert", (), 0, "line", "a"), ("pocket", (), 1, "high", "p"))
        self.assertEqual(engine.perform("low", ("change", low(1), "b")), ("told", "a"))
        self.assertEqual(engine.perform("low", ("change", low(1), "b")), ("told", "b"))
        self.assertEqual(engine.perform("low", ("change", low(2), "q")), ("told", "p"))
        self.assertEqual(texts(engine, "high"), ["b", "q"])

    def test_move_counts_without_the_node(self):
        engine = two_levels()
        told(engine, "low", *[("insert", (), index, "line", text) for index, text in enumerate("abcd")])
        for name, place, row in [(1, 0, "abcd"), (1, 3, "bcda"), (1, 1, "bacd"), (2, 2, "acbd"), (4, 0, "dacb")]:
            self.assertEqual(engine.perform("low", ("move", low(name), (), place)), ("told", None))
            self.assertEqual("".join(texts(engine, "low")), row)
        self.refused(engine, "low", ("move", low(1), (), 4), "place", 4)
        self.assertEqual(engine.perform("low", ("move", low(1), low(2), 0)), ("told", None))
        self.refused(engine, "low", ("move", low(3), low(2), 2), "place", 2)
        self.assertEqual(engine.perform("low", ("move", low(3), low(2), 1)), ("told", None))
        self.assertEqual(named_tree(engine, "low"), [["d", []], ["b", [["a", []], ["c", []]]]])

    def test_move_takes_along_what_a_node_holds(self):
        engine = two_levels()
        told(engine, "low", ("typed", ("list", "a", (("item", "b", ()),)), (), 0), ("insert", (), 1, "line", "c"),
             ("pocket", low(2), 0, "high", "p"))
        told(engine, "high", ("insert", low(4), 0, "line", "s"))
        told(engine, "low", ("move", low(1), low(3), 0))
        self.assertEqual(named_tree(engine, "high"), [["c", [["a", [["b", [["p", [["s", []]]]]]]]]]])

    def test_copy_adds_one_mark_to_all_names(self):
        engine = two_levels()
        told(engine, "low", ("typed", ("list", "a", (("item", "b", ()), ("item", "c", ()))), (), 0))
        mark = ("low", "", 4)
        self.assertEqual(engine.perform("low", ("copy", low(1), (), 0)), ("told", low(1) + (mark,)))
        self.assertEqual(list(engine.view("low").walk()), [
            (*low(1), mark), (*low(2), mark), (*low(3), mark), low(1), low(2), low(3)])
        self.assertEqual(named_tree(engine, "low"), [["a", [["b", []], ["c", []]]]] * 2)
        self.assertEqual(told(engine, "low", ("insert", (), 0, "line", "x")), [low(5)])
        again = told(engine, "low", ("copy", (*low(2), mark), low(3), 0))
        self.assertEqual(again, [(*low(2), mark, ("low", "", 6))])

    def test_copy_with_pockets_of_several_levels(self):
        engine = Engine(Levels(["low", "mid", "high"], [("mid", "high")]))
        told(engine, "low", ("insert", (), 0, "list", "top"), ("pocket", low(1), 0, "mid", "m"),
             ("pocket", low(1), 1, "high", "h"))
        told(engine, "mid", ("insert", low(2), 0, "item", "in m"), ("pocket", (("low", "", 2),), 1, "high", "mh"))
        told(engine, "high", ("insert", low(3), 0, "item", "in h"),
             ("insert", (("mid", "", 2),), 0, "item", "in mh"), ("insert", high(2), 0, "item", "below"),
             ("insert", low(3), 1, "item", "gone"), ("delete", high(4)))
        mark = ("low", "", 4)
        copied = told(engine, "low", ("copy", low(1), (), 1))
        self.assertEqual(copied, [(*low(1), mark)])
        tree = named_tree(engine, "high")
        self.assertEqual(tree[0], tree[1])
        self.assertEqual(tree[0], ["top", [["m", [["in m", []], ["mh", [["in mh", [["below", []]]]]]]],
                                           ["h", [["in h", []]]]]])
        view = engine.view("high")
        self.assertEqual(view[("mid", "", 2), mark], ("pocket", "mh", "mid", "high", (*low(2), mark)))
        self.assertEqual(view[("high", "", 3), mark], ("item", "below", "high", None, (("high", "", 2), mark)))
        self.assertNotIn((("high", "", 4), mark), view)
        self.assertEqual([engine.room("mid"), engine.room("high")], [38, 37])
        told(engine, "high", ("change", (("high", "", 1), mark), "changed"))
        self.assertEqual([view_text(engine, "high", high(1)), view_text(engine, "high", (("high", "", 1), mark))],
                         ["in h", "changed"])

    def test_copy_into_itself(self):
        engine = two_levels()
        told(engine, "low", ("typed", ("list", "a", (("item", "b", ()),)), (), 0))
        self.assertEqual(engine.perform("low", ("copy", low(1), low(2), 0))[0], "told")
        self.assertEqual(named_tree(engine, "low"), [["a", [["b", [["a", [["b", []]]]]]]]])

    def test_box_is_loose(self):
        engine = two_levels()
        self.assertEqual(engine.perform("low", ("box", "high")), ("told", low(1)))
        self.assertEqual(len(engine.view("low")), 0)
        self.assertEqual(engine.view("high").attic(), ((low(1), "high", ()),))
        self.assertEqual(engine.room("low"), 40)
        self.assertEqual(told(engine, "high", ("insert", low(1), 0, "line", "x")), [high(1)])

    def test_delete_tells_how_many_of_the_level_are_gone(self):
        engine = two_levels()
        told(engine, "low", ("typed", ("list", "a", (("item", "b", ()), ("item", "c", ()))), (), 0),
             ("pocket", low(3), 0, "high", "p"), ("insert", (), 1, "line", "z"))
        told(engine, "high", ("insert", low(4), 0, "line", "s"), ("insert", low(4), 0, "line", "t"))
        self.assertEqual(engine.perform("low", ("delete", low(1))), ("told", 4))
        self.assertEqual(texts(engine, "low"), ["z"])
        self.assertEqual([name for name, _, _ in engine.view("high").attic()], [low(4)])
        self.assertEqual(texts(engine, "high", low(4)), ["t", "s"])
        self.assertEqual(engine.perform("high", ("delete", high(1))), ("told", 1))

    def test_typed_names_in_document_order(self):
        engine = two_levels()
        payload = ("list", "a", (("item", "b", (("item", "c", ()),)), ("item", "d", ())))
        self.assertEqual(engine.perform("low", ("typed", payload, (), 0)), ("told", low(1)))
        view = engine.view("low")
        self.assertEqual(list(view.walk()), [low(1), low(2), low(3), low(4)])
        self.assertEqual([view[name][1] for name in view.walk()], ["a", "b", "c", "d"])
        self.assertEqual(told(engine, "low", ("insert", (), 0, "line", "x")), [low(5)])

    def test_typed_of_60_and_of_more_nodes(self):
        rows = tuple([("item", "x", ())] * 59)
        self.assertEqual(two_levels(limit=60).perform("low", ("typed", ("list", "", rows), (), 0)), ("told", low(1)))
        deep = ("item", "x", ())
        for _ in range(59):
            deep = ("item", "x", (deep,))
        engine = two_levels(limit=60)
        self.assertEqual(engine.perform("low", ("typed", deep, (), 0)), ("told", low(1)))
        self.assertEqual([len(engine.view("low")), engine.room("low")], [60, 0])
        for payload in [("list", "", (*rows, ("item", "x", ()))), ("item", "x", (deep,))]:
            deed = ("typed", payload, (), 0)
            self.refused(two_levels(limit=60), "low", deed, "deed", deed)

    def test_levels_do_their_own_deeds(self):
        engine = diamond()
        told(engine, "low", ("pocket", (), 0, "east", "e"), ("pocket", (), 1, "west", "w"))
        self.assertEqual(told(engine, "east", ("insert", low(1), 0, "line", "x")), [(("east", "", 1),)])
        self.assertEqual(told(engine, "west", ("insert", low(2), 0, "line", "y")), [(("west", "", 1),)])
        self.assertEqual([len(engine.view(level)) for level in engine.levels.names()], [2, 3, 3, 4])


def view_text(engine, level, name):
    return engine.view(level)[name][1]


class FormTests(EngineCase):
    def test_what_is_no_deed_by_its_form(self):
        deep = ()
        for _ in range(10000):
            deep = ("item", "x", (deep,))
        deeds = [
            None, 1, True, "undo", "", [], ["undo"], (), {}, {"undo": 1}, ("undo", 1), ("redo", None), ("undo", "redo"),
            ("Undo",), ("look",), ("clock",), ("",), (1,), (None,), ([],), (("undo",),), mock.ANY, (mock.ANY,),
            ("insert",), ("insert", (), 0, "line"), ("insert", (), 0, "line", "", ""), ("insert", (), 0, "pocket", ""),
            ("pocket", (), 0, "high"), ("pocket", (), 0, "high", "", ""), ("change", low(1)), ("move", low(1), ()),
            ("copy", low(1), ()), ("box",), ("box", "high", ""), ("delete",), ("delete", low(1), 0),
            ("typed", ("a", "", ()), ()), ("script",), ("script", "", ""), ("script", 1), ("script", None),
            ("script", b""), ("script", " " * 2001), ("typed", deep, (), 0),
        ]
        for name in NO_NAMES:
            deeds.extend([("insert", name, 0, "line", ""), ("pocket", name, 0, "high", ""), ("change", name, ""),
                          ("move", name, (), 0), ("move", low(1), name, 0), ("copy", name, (), 0),
                          ("copy", low(1), name, 0), ("delete", name), ("typed", ("a", "", ()), name, 0)])
        for place in NO_NUMBERS:
            deeds.extend([("insert", (), place, "line", ""), ("pocket", (), place, "high", ""),
                          ("move", low(1), (), place), ("copy", low(1), (), place),
                          ("typed", ("a", "", ()), (), place)])
        for word in NO_WORDS:
            deeds.extend([("insert", (), 0, word, ""), ("pocket", (), 0, word, ""), ("box", word),
                          ("typed", (word, "", ()), (), 0)])
        for text in NO_TEXTS:
            deeds.extend([("insert", (), 0, "line", text), ("pocket", (), 0, "high", text), ("change", low(1), text),
                          ("typed", ("a", text, ()), (), 0)])
        for payload in [None, (), ("a",), ("a", ""), ["a", "", ()], ("a", "", []), ("a", "", None), ("a", "", (), ()),
                        ("pocket", "", ()), ("a", "", ("b", "", ())), ("a", "", (("pocket", "", ()),)),
                        ("a", "", (("b", "", (("c", "\n", ()),)),)), ("a", "", (("b", "", ()), ["c", "", ()])), "a"]:
            deeds.append(("typed", payload, (), 0))
        engine = two_levels()
        told(engine, "low", ("insert", (), 0, "line", "a"))
        before = all_seen(engine)
        for deed in deeds:
            for level in ["low", "high"]:
                answer = engine.perform(level, deed)
                self.assertEqual(answer[:2], ("refused", "deed"))
                self.assertIs(answer[2], deed)
        self.assertEqual(all_seen(engine), before)

    def test_the_deed_is_not_changed_and_the_log_has_it(self):
        engine = two_levels()
        deed = ("typed", ("list", "a", (("item", "b", ()),)), (), 0)
        told(engine, "low", deed)
        self.assertEqual(engine.log("low"), [(deed, low(1))])
        self.assertEqual(deed, ("typed", ("list", "a", (("item", "b", ()),)), (), 0))


class NamingTests(EngineCase):
    """Which names are refused, with `name` and with `own`."""

    def setUp(self):
        # A pocket of low with a line of high, a line of low, a deleted line, and a pocket that is deleted.
        self.engine = two_levels()
        told(self.engine, "low", ("pocket", (), 0, "high", "p"), ("insert", (), 1, "line", "a"),
             ("insert", (), 2, "line", "gone"), ("insert", low(3), 0, "line", "gone too"), ("delete", low(3)),
             ("pocket", (), 2, "high", "loose"), ("delete", low(5)))
        told(self.engine, "high", ("insert", low(1), 0, "line", "s"))

    def with_node(self, name):
        return [("change", name, "x"), ("delete", name), ("move", name, (), 0), ("copy", name, (), 0)]

    def with_holder(self, name, place=0):
        return [("insert", name, place, "line", ""), ("pocket", name, place, "high", ""),
                ("move", low(2), name, place), ("copy", low(2), name, place),
                ("typed", ("a", "", ()), name, place)]

    def test_hidden_deleted_and_never_made_nodes_are_refused_alike(self):
        for name in [high(1), low(3), low(4), low(5), low(99), high(99), (), low(2) + low(1), (("no", "", 1),)]:
            for deed in self.with_node(name):
                self.refused(self.engine, "low", deed, "name", name)

    def test_hidden_deleted_and_never_made_holders_are_refused_alike(self):
        for name in [low(1), high(1), low(3), low(4), low(5), low(99), low(2) + low(1)]:
            for deed in self.with_holder(name):
                self.refused(self.engine, "low", deed, "name", name)

    def test_nodes_of_another_level(self):
        for name in [low(1), low(2)]:
            for deed in [("change", name, "x"), ("delete", name), ("move", name, low(1), 0), ("copy", name, low(1), 0)]:
                self.refused(self.engine, "high", deed, "own", name)

    def test_holders_of_another_level(self):
        for name in [(), low(2)]:
            for deed in [("insert", name, 0, "line", ""), ("move", high(1), name, 0), ("copy", high(1), name, 0),
                         ("typed", ("a", "", ()), name, 0)]:
                self.refused(self.engine, "high", deed, "own", name)

    def test_a_loose_box_is_a_holder_for_its_level(self):
        self.assertEqual(told(self.engine, "high", ("insert", low(5), 0, "line", "x")), [high(2)])
        self.refused(self.engine, "high", ("change", low(5), "x"), "name", low(5))

    def test_a_pocket_in_a_loose_box_is_there(self):
        engine = diamond()
        told(engine, "low", ("pocket", (), 0, "east", "e"))
        told(engine, "east", ("pocket", low(1), 0, "top", "t"))
        told(engine, "low", ("delete", low(1)))
        pocket = (("east", "", 1),)
        self.assertEqual(engine.view("top").attic(),
                         ((low(1), "east", ((pocket, "pocket", "t", "top", ()),)),))
        self.assertEqual(told(engine, "east", ("change", pocket, "u")), ["t"])

    def test_places(self):
        for place in [-1, 3, 10 ** 30, -10 ** 30]:
            for deed in self.with_holder((), place):
                self.refused(self.engine, "low", deed, "place", place)
        self.refused(self.engine, "low", ("move", low(2), (), 2), "place", 2)
        self.refused(self.engine, "high", ("insert", low(1), 2, "line", ""), "place", 2)

    def test_incomparable_levels_do_not_see_each_other(self):
        engine = diamond()
        told(engine, "low", ("pocket", (), 0, "east", "e"), ("pocket", (), 1, "west", "w"))
        told(engine, "east", ("insert", low(1), 0, "line", "x"))
        east = (("east", "", 1),)
        self.refused(engine, "west", ("change", east, "y"), "name", east)
        self.refused(engine, "west", ("insert", low(1), 0, "line", "y"), "name", low(1))
        self.refused(engine, "top", ("insert", low(1), 0, "line", "y"), "own", low(1))
        self.refused(engine, "top", ("change", east, "y"), "own", east)


class OrderOfRefusalTests(EngineCase):
    """deed; then for each name name, own, place; then above, inside, full."""

    def setUp(self):
        self.engine = two_levels(limit=3)
        told(self.engine, "low", ("pocket", (), 0, "high", "p"), ("insert", (), 1, "line", "a"),
             ("insert", low(2), 0, "line", "b"))
        told(self.engine, "high", ("insert", low(1), 0, "line", "s"), ("insert", high(1), 0, "line", "t"),
             ("insert", high(2), 0, "line", "u"))

    def test_deed_comes_first(self):
        for deed in [("insert", low(9), 0, "pocket", ""), ("pocket", low(9), 9, "high", "\n"),
                     ("move", low(9), low(9), True), ("copy", low(9), (), "0"), ("typed", ("a", "", []), low(9), 9)]:
            self.refused(self.engine, "low", deed, "deed", deed)

    def test_the_first_name_comes_before_the_second(self):
        for word in ["move", "copy"]:
            self.refused(self.engine, "low", (word, low(8), low(9), 9), "name", low(8))
            self.refused(self.engine, "high", (word, low(2), low(9), 9), "own", low(2))
            self.refused(self.engine, "low", (word, low(2), low(9), 9), "name", low(9))
            self.refused(self.engine, "high", (word, high(1), (), 9), "own", ())
            self.refused(self.engine, "low", (word, low(2), (), 9), "place", 9)

    def test_name_own_place_of_one_holder(self):
        for word, more in [("insert", ("line", "")), ("pocket", ("none", ""))]:
            self.refused(self.engine, "low", (word, low(1), 9, *more), "name", low(1))
            self.refused(self.engine, "high", (word, (), 9, *more), "own", ())
            self.refused(self.engine, "low", (word, (), 9, *more), "place", 9)
        payload = ("a", "", ())
        self.refused(self.engine, "low", ("typed", payload, low(1), 9), "name", low(1))
        self.refused(self.engine, "high", ("typed", payload, low(2), 9), "own", low(2))
        self.refused(self.engine, "low", ("typed", payload, (), 9), "place", 9)

    def test_above(self):
        for inner in ["low", "none"]:
            self.refused(self.engine, "low", ("pocket", (), 0, inner, ""), "above", inner)
            self.refused(self.engine, "low", ("box", inner), "above", inner)
        for inner in ["low", "high", "none"]:
            self.refused(self.engine, "high", ("pocket", low(1), 0, inner, ""), "above", inner)
            self.refused(self.engine, "high", ("box", inner), "above", inner)
        engine = diamond()
        told(engine, "low", ("pocket", (), 0, "east", "e"))
        self.refused(engine, "east", ("pocket", low(1), 0, "west", ""), "above", "west")
        self.refused(engine, "east", ("box", "west"), "above", "west")

    def test_inside(self):
        self.refused(self.engine, "low", ("move", low(2), low(2), 1), "inside", low(2))
        self.refused(self.engine, "low", ("move", low(2), low(3), 0), "inside", low(3))
        self.refused(self.engine, "low", ("move", low(2), low(3), 1), "place", 1)
        self.refused(self.engine, "high", ("move", high(1), high(3), 0), "inside", high(3))
        self.assertEqual(self.engine.perform("low", ("move", low(3), low(2), 0)), ("told", None))

    def test_above_comes_before_full(self):
        self.refused(self.engine, "low", ("pocket", (), 0, "low", ""), "above", "low")
        self.refused(self.engine, "low", ("pocket", (), 0, "high", ""), "full", 3)


class FullTests(EngineCase):
    def test_each_deed_that_makes_nodes(self):
        engine = two_levels(limit=2)
        told(engine, "low", ("insert", (), 0, "line", "a"))
        self.refused(engine, "low", ("typed", ("a", "", (("a", "", ()),)), (), 0), "full", 2)
        told(engine, "low", ("insert", low(1), 0, "line", "b"))
        for deed in [("insert", (), 0, "line", ""), ("pocket", (), 0, "high", ""), ("copy", low(2), (), 0),
                     ("copy", low(1), (), 0), ("typed", ("a", "", ()), (), 0)]:
            self.refused(engine, "low", deed, "full", 2)
        self.assertEqual(engine.perform("low", ("box", "high")), ("told", low(3)))
        self.assertEqual(engine.perform("low", ("move", low(2), (), 0)), ("told", None))
        self.assertEqual(engine.perform("low", ("delete", low(2))), ("told", 1))
        self.assertEqual(engine.room("low"), 1)
        self.assertEqual(engine.perform("low", ("copy", low(1), (), 0)), ("told", (*low(1), ("low", "", 4))))
        self.assertEqual(engine.room("low"), 0)

    def test_a_copy_counts_the_nodes_of_its_level_alone(self):
        engine = two_levels(limit=3)
        told(engine, "low", ("pocket", (), 0, "high", "p"))
        told(engine, "high", *[("insert", low(1), 0, "line", text) for text in "abc"])
        told(engine, "low", ("copy", low(1), (), 0), ("copy", low(1), (), 0))
        self.assertEqual([engine.room("low"), engine.room("high")], [0, 0])
        self.assertEqual(len(engine.view("high")), 12)

    def test_nodes_that_a_lower_level_has_copied_do_not_count(self):
        engine = two_levels(limit=3)
        told(engine, "low", ("pocket", (), 0, "high", "p"))
        told(engine, "high", ("insert", low(1), 0, "line", "a"))
        told(engine, "low", ("copy", low(1), (), 0))
        copied, box = (*high(1), ("low", "", 2)), (*low(1), ("low", "", 2))
        self.assertEqual(engine.room("high"), 2)
        told(engine, "high", ("delete", copied))
        self.assertEqual(engine.room("high"), 2)
        told(engine, "high", ("undo",), ("copy", copied, box, 0))
        self.assertEqual(engine.room("high"), 1)
        told(engine, "high", ("insert", copied, 0, "line", "b"), ("delete", copied))
        self.assertEqual(engine.room("high"), 1)
        told(engine, "high", ("undo",))
        self.assertEqual(engine.room("high"), 0)
        self.refused(engine, "high", ("copy", copied, box, 0), "full", 3)

    def test_undo_and_redo_are_not_refused_when_it_is_full(self):
        engine = two_levels(limit=2)
        told(engine, "low", ("insert", (), 0, "line", "a"), ("insert", (), 0, "line", "b"), ("delete", low(1)),
             ("insert", (), 0, "line", "c"), ("undo",), ("undo",))
        self.assertEqual([texts(engine, "low"), engine.room("low")], [["b", "a"], 0])
        told(engine, "low", ("redo",), ("redo",))
        self.assertEqual([texts(engine, "low"), engine.room("low")], [["c", "b"], 0])


class MarkTests(EngineCase):
    def test_numbers_of_each_source_by_itself(self):
        engine = two_levels()
        for source, number in [("", 1), ("pad", 1), ("", 2), ("pad", 2), ("z", 1)]:
            answer = engine.perform("low", ("insert", (), 0, "line", ""), source)
            self.assertEqual(answer, ("told", low(number, source)))
        engine.perform("low", ("pocket", (), 0, "high", ""), source="pad")
        self.assertEqual(engine.perform("high", ("insert", low(3, "pad"), 0, "line", ""), "pad"),
                         ("told", high(1, "pad")))
        self.assertEqual(engine.perform("low", ("typed", ("a", "", (("a", "", ()),)), (), 0), "z")[1], low(2, "z"))
        self.assertEqual(engine.perform("low", ("copy", low(1), (), 0), "z")[1], (*low(1), ("low", "z", 4)))
        self.assertEqual(engine.perform("low", ("box", "high"), "z")[1], low(5, "z"))

    def test_refused_deeds_draw_no_numbers(self):
        engine = two_levels(limit=1)
        told(engine, "low", ("insert", (), 0, "line", ""))
        self.refused(engine, "low", ("insert", (), 0, "line", ""), "full", 1)
        self.assertEqual(told(engine, "low", ("delete", low(1)), ("insert", (), 0, "line", ""))[1], low(2))

    def test_a_mark_that_is_given(self):
        engine = two_levels()
        perform = engine.perform
        self.assertEqual(perform("low", ("insert", (), 0, "line", ""), "", ("low", "pad", 7))[1], low(7, "pad"))
        self.assertEqual(perform("low", ("insert", (), 0, "line", ""), "pad")[1], low(8, "pad"))
        self.assertEqual(perform("low", ("insert", (), 0, "line", ""), "pad", ("low", "pad", 3))[1], low(3, "pad"))
        self.assertEqual(perform("low", ("insert", (), 0, "line", ""), "pad")[1], low(9, "pad"))
        self.assertEqual(perform("low", ("insert", (), 0, "line", ""), "z", ("low", "", 5))[1], low(5))
        self.assertEqual(perform("low", ("insert", (), 0, "line", ""), "z")[1], low(1, "z"))
        self.assertEqual(perform("low", ("insert", (), 0, "line", ""))[1], low(6))
        typed = ("typed", ("a", "", (("a", "", ()), ("a", "", ()))), (), 0)
        self.assertEqual(perform("low", typed, mark=("low", "", 10))[1], low(10))
        self.assertEqual(perform("low", ("copy", low(10), (), 0), mark=("low", "", 20))[1], (*low(10), ("low", "", 20)))
        self.assertEqual(perform("low", ("pocket", (), 0, "high", ""), mark=("low", "", 13))[1], low(13))
        self.assertEqual(perform("low", ("box", "high"), mark=("low", "", 14))[1], low(14))
        self.assertEqual(perform("low", ("box", "high"))[1], low(21))
        self.assertEqual(perform("low", ("insert", (), 0, "line", ""), mark=("low", "", 10 ** 17))[1], low(10 ** 17))
        self.assertEqual(perform("low", ("insert", (), 0, "line", ""))[1], low(10 ** 17 + 1))

    def test_a_refused_deed_does_not_take_the_mark(self):
        engine = two_levels()
        before = all_seen(engine)
        for _ in range(2):
            answer = engine.perform("low", ("insert", (), 1, "line", ""), "", ("low", "", 5))
            self.assertEqual(answer, ("refused", "place", 1))
        self.assertEqual(all_seen(engine), before)
        self.assertEqual(engine.perform("low", ("insert", (), 0, "line", ""), "", ("low", "", 5)), ("told", low(5)))

    def invalid(self, engine, value, *arguments, **named):
        before = all_seen(engine)
        with self.assertRaises(InvalidName) as caught:
            engine.perform(*arguments, **named)
        self.assertIs(caught.exception.value, value)
        self.assertEqual(all_seen(engine), before)

    def test_what_is_no_mark_of_the_level(self):
        engine = two_levels()
        deeds = [("insert", (), 0, "line", ""), ("undo",), ("delete", low(9)), ("script", ""), None, ("insert", (), 9)]
        for mark in [1, "", "low.1", (), ("low", 1), ["low", "", 1], ("low", "", 0), ("low", "", True), False, {},
                     ("low", "", 10 ** 17 + 1), ("low", "", 10 ** 18), ("high", "", 1), ("none", "", 1),
                     ("low", "Pad", 1), ("low", None, 1), low(1), mock.ANY]:
            for deed in deeds:
                self.invalid(engine, mark, "low", deed, "", mark)

    def test_marks_that_a_node_has(self):
        engine = two_levels()
        told(engine, "low", ("insert", (), 0, "line", ""), ("copy", low(1), (), 0), ("box", "high"),
             ("insert", (), 0, "line", ""), ("delete", low(4)), ("insert", (), 0, "line", ""), ("undo",),
             ("insert", (), 0, "line", ""), ("pocket", (), 0, "high", ""))
        told(engine, "high", ("insert", low(7), 0, "line", ""))
        mark = ("high", "", 1)
        self.invalid(engine, mark, "high", ("insert", low(7), 0, "line", ""), "", mark)
        for number in range(1, 8):
            mark = ("low", "", number)
            for deed in [("insert", (), 0, "line", ""), ("pocket", (), 0, "high", ""), ("copy", low(1), (), 0),
                         ("box", "high"), ("typed", ("a", "", ()), (), 0), ("insert", low(99), 0, "line", "")]:
                self.invalid(engine, mark, "low", deed, "", mark)
            self.assertEqual(engine.twin().perform("low", ("change", low(1), "x"), "", mark), ("told", ""))
        self.assertEqual(engine.perform("low", ("insert", (), 0, "line", ""), "", ("low", "pad", 1))[0], "told")

    def test_deeds_that_make_no_marks_take_any_mark_of_the_level(self):
        engine = two_levels()
        told(engine, "low", ("insert", (), 0, "line", ""))
        mark = ("low", "", 1)
        for deed, answer in [(None, ("refused", "deed", None)), (("insert", (), 0), None), (("undo",), None),
                             (("redo",), None), (("move", low(1), (), 0), None), (("script", ""), ("told", ())),
                             (("delete", low(9)), ("refused", "name", low(9))), (("delete", low(1)), ("told", 1))]:
            told_now = engine.perform("low", deed, "", mark)
            if answer is not None:
                self.assertEqual(told_now, answer)

    def test_typed_needs_free_marks_from_the_first_one_on(self):
        engine = two_levels()
        engine.perform("low", ("insert", (), 0, "line", ""), "", ("low", "", 10))
        typed = ("typed", ("a", "", (("a", "", ()), ("a", "", ()))), (), 0)
        for number in [8, 9, 10]:
            mark = ("low", "", number)
            self.invalid(engine, mark, "low", typed, "", mark)
        self.assertEqual(engine.perform("low", typed, "", ("low", "", 7)), ("told", low(7)))
        self.assertEqual(list(engine.view("low").walk()), [low(7), low(8), low(9), low(10)])
        self.assertEqual(told(engine, "low", ("insert", (), 0, "line", "")), [low(11)])

    def test_what_is_no_source(self):
        engine = two_levels()
        for source in [None, 1, True, "Pad", "pad1", " ", "ninesigns", [], (), b"", {}, mock.ANY]:
            self.invalid(engine, source, "low", ("insert", (), 0, "line", ""), source)
            self.invalid(engine, source, "low", None, source)
            self.invalid(engine, source, "low", ("undo",), source, ("high", "", 0))


class LevelTests(unittest.TestCase):
    def test_what_is_no_level(self):
        engine = two_levels()
        for level in ["none", "", None, 1, True, [], ("low",), {}, b"low", mock.ANY]:
            for call in [engine.clock, engine.log, engine.room, engine.view, engine.state,
                         lambda level: engine.perform(level, ("undo",)),
                         lambda level: engine.perform(level, None, None, 0)]:
                with self.assertRaises(InvalidLevel) as caught:
                    call(level)
                self.assertIs(caught.exception.value, level)


if __name__ == "__main__":
    unittest.main()
