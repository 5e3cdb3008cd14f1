"""Tests of undo and redo ([8])."""

import unittest

from helpers import all_seen, diamond, high, low, named_tree, told, two_levels

UNDO, REDO = ("undo",), ("redo",)


def shown(engine):
    """Returns what all levels see, without clocks and logs, which undo and redo go on with."""
    return [(engine.view(level).tree(), engine.view(level).attic(), engine.room(level))
            for level in engine.levels.names()]


def started():
    """Returns an engine with some nodes of both levels."""
    engine = two_levels()
    told(engine, "low", ("typed", ("list", "a", (("item", "b", ()), ("item", "c", ()))), (), 0),
         ("pocket", (), 1, "high", "p"))
    told(engine, "high", ("typed", ("list", "s", (("item", "t", ()),)), low(4), 0))
    return engine


EACH_KIND = [
    ("insert", low(2), 0, "line", "new"), ("pocket", low(1), 2, "high", "new"), ("change", low(1), "other"),
    ("move", low(1), (), 1), ("move", low(2), low(3), 0), ("copy", low(4), low(1), 1), ("copy", low(1), low(2), 0),
    ("box", "high"), ("delete", low(1)), ("delete", low(4)),
    ("typed", ("list", "x", (("item", "y", ()),)), (), 2), ("change", low(1), "a"), ("move", low(1), (), 0),
    ("script", 'delete(node("low.2")); change(node("low.1"), "z"); insert(node("/"), 0, "line", "w");'),
    ("script", ""),
]


class EachKindTests(unittest.TestCase):
    def test_back_and_again(self):
        for deed in EACH_KIND:
            engine = started()
            before, loose = shown(engine), len(engine.view("high").loose)
            told(engine, "low", deed)
            behind = shown(engine)
            for _ in range(2):
                self.assertEqual(engine.perform("low", UNDO), ("told", deed[0]))
                self.assertEqual([level[0] for level in shown(engine)], [level[0] for level in before], deed)
                self.assertEqual(shown(engine)[0], before[0], deed)
                self.assertGreaterEqual(len(engine.view("high").loose), loose)
                self.assertEqual(engine.perform("low", REDO), ("told", deed[0]))
                self.assertEqual(shown(engine), behind, deed)

    def test_boxes_stay(self):
        for deed, many in [(("pocket", (), 0, "high", "q"), 1), (("copy", low(4), (), 0), 1), (("box", "high"), 1),
                           (("insert", (), 0, "line", "q"), 0)]:
            engine = started()
            told(engine, "low", deed, UNDO)
            self.assertEqual(len(engine.view("high").loose), many, deed)

    def test_nothing_to_undo_or_redo(self):
        engine = started()
        for level, deed in [("high", REDO), ("low", REDO)]:
            before = all_seen(engine)
            self.assertEqual(engine.perform(level, deed), ("refused", "nothing", None))
            self.assertEqual(all_seen(engine), before)
        told(engine, "high", UNDO)
        before = all_seen(engine)
        self.assertEqual(engine.perform("high", UNDO), ("refused", "nothing", None))
        self.assertEqual(two_levels().perform("low", UNDO), ("refused", "nothing", None))
        self.assertEqual(all_seen(engine), before)


class RowTests(unittest.TestCase):
    def test_to_the_beginning_and_back(self):
        engine = started()
        pictures = [shown(engine)[0]]
        done = []
        for deed in EACH_KIND:
            if engine.perform("low", deed)[0] == "told":
                done.append(deed[0])
                pictures.append(shown(engine)[0])
        self.assertGreater(len(done), 8)
        for _ in range(2):
            for index in range(len(done) - 1, -1, -1):
                self.assertEqual(engine.perform("low", UNDO), ("told", done[index]))
                self.assertEqual(shown(engine)[0], pictures[index])
            for index, word in enumerate(done):
                self.assertEqual(engine.perform("low", REDO), ("told", word))
                self.assertEqual(shown(engine)[0], pictures[index + 1])
        told(engine, "low", *[UNDO] * (len(done) + 2))
        self.assertEqual(engine.view("low").tree(), ())
        self.assertEqual(engine.perform("low", UNDO), ("refused", "nothing", None))

    def test_redo_behind_another_accepted_deed(self):
        for deed in EACH_KIND:
            engine = started()
            told(engine, "low", ("insert", (), 2, "line", "x"), UNDO, deed)
            self.assertEqual(engine.perform("low", REDO), ("refused", "nothing", None), deed)
            self.assertEqual(engine.perform("low", UNDO), ("told", deed[0]))

    def test_redo_behind_a_refused_deed(self):
        engine = started()
        told(engine, "low", ("insert", (), 2, "line", "x"), UNDO)
        for deed in [("insert", (), 9, "line", ""), None, ("script", "tell 1"), ("script", "tell a;"), ("box", "low")]:
            self.assertEqual(engine.perform("low", deed)[0], "refused")
        self.assertEqual(engine.perform("low", REDO), ("told", "insert"))

    def test_redo_behind_a_deed_of_another_level(self):
        engine = started()
        told(engine, "low", ("insert", (), 2, "line", "x"), UNDO)
        told(engine, "high", ("change", high(1), "u"), ("insert", low(4), 0, "line", "v"), UNDO)
        self.assertEqual(engine.perform("low", REDO), ("told", "insert"))
        self.assertEqual(engine.perform("high", REDO), ("told", "insert"))

    def test_undo_undoes_deeds_and_not_undoing(self):
        engine = two_levels()
        told(engine, "low", *[("insert", (), 0, "line", text) for text in "abc"])
        self.assertEqual(told(engine, "low", UNDO, UNDO, REDO, UNDO, UNDO), ["insert"] * 5)
        self.assertEqual(engine.perform("low", UNDO), ("refused", "nothing", None))
        self.assertEqual(told(engine, "low", REDO, REDO, REDO), ["insert"] * 3)
        self.assertEqual(engine.perform("low", REDO), ("refused", "nothing", None))

    def test_numbers_are_not_given_back(self):
        engine = two_levels()
        told(engine, "low", ("insert", (), 0, "line", "a"), UNDO)
        self.assertEqual(told(engine, "low", ("insert", (), 0, "line", "b")), [low(2)])
        told(engine, "low", ("typed", ("list", "", (("a", "", ()),)), (), 0), UNDO, ("copy", low(2), (), 0), UNDO)
        told(engine, "low", ("box", "high"), UNDO, ("script", 'insert(node("/"), 0, "line", "");'), UNDO)
        self.assertEqual(told(engine, "low", ("insert", (), 0, "line", "b")), [low(8)])


class BetweenTests(unittest.TestCase):
    """Deeds of other levels in between stay."""

    def test_a_pocket_comes_back_with_its_box_as_it_is_now(self):
        engine = started()
        told(engine, "low", ("delete", low(4)))
        told(engine, "high", ("change", high(1), "new"), ("delete", high(2)), ("insert", low(4), 0, "line", "more"))
        told(engine, "low", UNDO)
        self.assertEqual(named_tree(engine, "high")[1], ["p", [["more", []], ["new", []]]])
        told(engine, "low", REDO)
        self.assertEqual(named_tree(engine, "high", low(4)), [["more", []], ["new", []]])

    def test_undoing_a_pocket_leaves_what_its_box_holds(self):
        engine = two_levels()
        told(engine, "low", ("pocket", (), 0, "high", "p"))
        told(engine, "high", ("insert", low(1), 0, "line", "s"))
        told(engine, "low", UNDO)
        self.assertEqual(engine.view("high").loose, {low(1): "high"})
        told(engine, "high", ("insert", low(1), 1, "line", "t"))
        told(engine, "low", REDO)
        self.assertEqual([named_tree(engine, "high"), engine.view("high").loose],
                         [[["p", [["s", []], ["t", []]]]], {}])

    def test_undoing_and_redoing_a_copy(self):
        engine = started()
        name = told(engine, "low", ("copy", low(4), (), 0))[0]
        told(engine, "high", ("insert", name, 0, "line", "more"), ("delete", (*high(1), ("low", "", 5))))
        told(engine, "low", UNDO)
        self.assertNotIn(name, engine.view("low"))
        self.assertEqual(named_tree(engine, "high", name), [["more", []]])
        told(engine, "high", UNDO)
        told(engine, "low", REDO)
        self.assertIn(name, engine.view("low"))
        self.assertEqual(named_tree(engine, "high", name), [["more", []], ["s", [["t", []]]]])
        self.assertEqual(engine.view("high").loose, {})

    def test_undoing_behind_a_copy_of_a_lower_level(self):
        engine = started()
        told(engine, "high", ("change", high(2), "u"), ("insert", low(4), 0, "line", "v"))
        name = told(engine, "low", ("copy", low(4), (), 0))[0]
        told(engine, "high", UNDO, UNDO, UNDO)
        self.assertEqual(named_tree(engine, "high", low(4)), [])
        self.assertEqual(named_tree(engine, "high", name), [["v", []], ["s", [["u", []]]]])
        told(engine, "high", REDO)
        self.assertEqual(named_tree(engine, "high", low(4)), [["s", [["t", []]]]])

    def test_deeds_of_one_level_in_a_copied_box_are_undone_there(self):
        engine = started()
        name = told(engine, "low", ("copy", low(4), (), 0))[0]
        mark = ("low", "", 5)
        told(engine, "high", ("move", (*high(2), mark), low(4), 0), ("move", (*high(1), mark), high(1), 0))
        told(engine, "low", ("delete", name))
        told(engine, "high", UNDO, UNDO)
        self.assertEqual(named_tree(engine, "high", name), [["s", [["t", []]]]])
        told(engine, "high", REDO, REDO)
        self.assertEqual(named_tree(engine, "high", name), [])

    def test_levels_that_cannot_be_compared(self):
        engine = diamond()
        told(engine, "low", ("pocket", (), 0, "east", "e"), ("pocket", (), 1, "west", "w"))
        told(engine, "east", ("insert", low(1), 0, "line", "x"))
        told(engine, "west", ("insert", low(2), 0, "line", "y"))
        told(engine, "low", UNDO, UNDO)
        self.assertEqual(engine.view("top").loose, {low(1): "east", low(2): "west"})
        told(engine, "east", UNDO)
        told(engine, "low", REDO, REDO)
        self.assertEqual(named_tree(engine, "top"), [["e", []], ["w", [["y", []]]]])


class LoggedTests(unittest.TestCase):
    def test_undo_and_redo_stand_in_log_and_clock(self):
        engine = two_levels()
        deed = ("insert", (), 0, "line", "a")
        told(engine, "low", deed, UNDO, REDO)
        self.assertEqual(engine.log("low"), [(deed, low(1)), (UNDO, "insert"), (REDO, "insert")])
        self.assertEqual([engine.clock("low"), engine.clock("high")], [3, 3])


if __name__ == "__main__":
    unittest.main()
