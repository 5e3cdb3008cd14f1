"""Tests of what levels lose ([31], [33])."""

import unittest

from busy import ORDERS, busy_calls, busy_cases
from helpers import high, low
from maskededits.checker import answer_to
from maskededits.errors import InvalidLevel, InvalidNumber, NoFault
from maskededits.faults import FAULTS, faulty_engine
from maskededits.levels import Levels
from maskededits.losses import Change, first_loss
from maskededits.views import View

LEVELS = Levels(["low", "high"])
CHAIN = Levels(["low", "mid", "high"], [("mid", "high")])
FOUR = Levels(["low", "east", "west", "top"], [("east", "top"), ("west", "top")])
POCKET = ("pocket", (), 0, "high", "p")
SECRET = ("insert", low(1), 0, "line", "s")
LATER = ("insert", low(1), 1, "line", "t")
COPY, DELETE, UNDO, EMPTY = ("copy", low(1), (), 0), ("delete", low(1)), ("undo",), ("script", "")
FILLED = [("low", POCKET), ("high", SECRET), ("high", LATER)]


def mid(number):
    return (("mid", "", number),)


def picture(view):
    """Returns the walk of a view, its rows, and what each holder holds that is seen into."""
    walk = list(view.walk())
    held = {name: view.holds(name) for name in [(), *view.loose, *walk]}
    return walk, {name: view[name] for name in walk}, {name: held[name] for name in held if held[name] is not None}


def losses_of(levels, level, maker, is_told, before, behind):
    """Yields all losses of a level by a call, in the order of the document."""
    walk, rows, held = before
    new_walk, new_rows, new_held = behind
    given = is_told and levels.above(level, maker)
    for name in walk:
        if rows[name][2] == level:
            if name not in new_rows:
                yield "gone", name
            elif rows[name] != new_rows[name]:
                yield "changed", name
            elif held[rows[name][4]].index(name) != new_held[rows[name][4]].index(name):
                yield "order", name
    for name in new_walk:
        kind, text, own, inner, holder = new_rows[name]
        source, mark = name[:-1], name[-1]
        if own == level and name not in rows:
            if not (given and mark[0] == maker and source in new_rows):
                yield "new", name
            else:
                if (kind, text, own, inner) != new_rows[source][:4] or holder != new_rows[source][4] + (mark,):
                    yield "copy", name
                if inner is None and new_held[name] != tuple(child + (mark,) for child in new_held[source]):
                    yield "copy", name
        if given and inner == level and name not in held:
            if len(name) == 1 and new_held[name]:
                yield "copy", name
            if len(name) > 1 and source in new_held and new_held[name] != tuple(child + (mark,) for child in new_held[source]):
                yield "copy", name


def loss_slowly(levels, calls, fault, limit):
    engine = faulty_engine(fault, levels, limit)
    for index, (maker, deed) in enumerate(calls):
        before = {level: picture(engine.view(level)) for level in levels.names()}
        is_told = answer_to(engine, maker, deed)[0] == "told"
        for level in levels.names():
            if is_told and level == maker:
                continue
            for word, name in losses_of(levels, level, maker, is_told, before[level], picture(engine.view(level))):
                return (index, level, word, name)
    return None


class FaultTests(unittest.TestCase):
    def check(self, fault, calls, *found, levels=LEVELS):
        self.assertEqual(first_loss(levels, calls, fault), (len(calls) - 1, *found))
        self.assertIsNone(first_loss(levels, calls[:-1], fault))
        self.assertIsNone(first_loss(levels, calls))

    def test_gone(self):
        self.check("emptied", [*FILLED, ("low", DELETE)], "high", "gone", high(1))
        self.check("undos", [*FILLED, ("low", UNDO)], "high", "gone", high(2))

    def test_changed(self):
        self.check("stolen", [*FILLED, ("low", COPY)], "high", "changed", high(1))
        self.check("undos", [*FILLED, ("high", ("change", high(2), "u")), ("low", UNDO)], "high", "changed", high(2))
        self.check("undos", [*FILLED, ("high", ("move", high(2), high(1), 0)), ("low", UNDO)], "high", "changed", high(2))
        self.check("shown", FILLED[:2], "low", "changed", low(1))

    def test_order(self):
        self.check("undos", [*FILLED, ("high", ("move", high(2), low(1), 0)), ("low", UNDO)], "high", "order", high(2))

    def test_new(self):
        self.check("undos", [*FILLED, ("high", ("delete", high(1))), ("low", UNDO)], "high", "order", high(2))
        self.check("undos", [*FILLED, ("high", ("delete", high(2))), ("low", UNDO)], "high", "new", high(2))
        self.check("undos", [("low", ("insert", (), 0, "line", "")), ("low", UNDO), ("high", ("redo",))], "low", "new", low(1))

    def test_copy(self):
        self.check("shallow", [*FILLED, ("low", COPY)], "high", "copy", (*low(1), ("low", "", 2)))
        self.check("shallow", [*FILLED, ("low", ("script", 'copy(node("low.1"), node("/"), 0);'))], "high", "copy", (*low(1), ("low", "", 2)))
        self.assertIsNone(first_loss(LEVELS, [("low", POCKET), ("low", COPY)], "shallow"))

    def test_faults_that_lose_nothing(self):
        calls = [*FILLED, ("low", COPY), ("low", DELETE), ("low", UNDO), ("high", EMPTY), ("low", ("redo",)), ("low", ("clock",))]
        for fault in ("numbers", "clock", "hidden", "heavy", "room", "redos", "steps"):
            self.assertIsNone(first_loss(LEVELS, calls, fault), fault)

    def test_deeper_pockets(self):
        calls = [("low", ("pocket", (), 0, "mid", "p")), ("mid", ("pocket", low(1), 0, "high", "q")), ("high", ("insert", mid(1), 0, "line", "z"))]
        mark = ("low", "", 2)
        self.check("shallow", [*calls, ("low", COPY)], "mid", "copy", (*low(1), mark), levels=CHAIN)
        self.check("stolen", [*calls, ("low", COPY)], "mid", "changed", mid(1), levels=CHAIN)
        self.check("emptied", [*calls, ("low", DELETE)], "mid", "gone", mid(1), levels=CHAIN)
        # Mid empties the deeper box alone; of what mid does mid itself loses nothing.
        self.check("emptied", [*calls, ("mid", ("delete", mid(1)))], "high", "gone", high(1), levels=CHAIN)

    def test_levels_in_their_order(self):
        calls = [("low", ("pocket", (), 0, "east", "")), ("low", ("pocket", (), 1, "west", "")), ("low", ("insert", (), 2, "list", "")),
                 ("west", ("insert", low(2), 0, "line", "")), ("east", ("insert", low(1), 0, "line", "")),
                 ("low", ("move", low(1), low(3), 0)), ("low", ("move", low(2), low(3), 1))]
        self.check("emptied", [*calls, ("low", ("delete", low(3)))], "east", "gone", (("east", "", 1),), levels=FOUR)
        self.check("emptied", [*calls, ("low", ("delete", low(2)))], "west", "gone", (("west", "", 1),), levels=FOUR)

    def test_the_level_of_a_told_call_is_left_out(self):
        calls = [("high", EMPTY), ("low", ("insert", (), 0, "line", "")), ("low", ("change", low(1), "x"))]
        self.assertIsNone(first_loss(LEVELS, [*calls, ("low", UNDO), ("low", UNDO)], "undos"))
        self.assertEqual(first_loss(LEVELS, [*calls, ("high", UNDO)], "undos"), (3, "low", "changed", low(1)))

    def test_refused_calls_and_calls_that_ask(self):
        calls = [*FILLED, ("low", SECRET), ("low", ("look",)), ("high", None), ("high", ("log",)), ("low", ("delete", high(1)))]
        for fault in ("", *FAULTS):
            if fault != "shown":
                self.assertIsNone(first_loss(LEVELS, calls, fault))

    def test_wrong_arguments(self):
        for level in [None, "", "none", 0, ["low"], {}]:
            with self.assertRaises(InvalidLevel) as caught:
                first_loss(LEVELS, [("low", UNDO), (level, UNDO)], "none", 0)
            self.assertIs(caught.exception.value, level)
        for fault in [None, "none", 0, ["gone"], "gone"]:
            with self.assertRaises(NoFault) as caught:
                first_loss(LEVELS, [], fault, 0)
            self.assertIs(caught.exception.value, fault)
        for limit in [0, 61, None, True]:
            with self.assertRaises(InvalidNumber) as caught:
                first_loss(LEVELS, [], limit=limit)
            self.assertIs(caught.exception.value, limit)
        self.assertIsNone(first_loss(LEVELS, []))
        self.assertEqual(first_loss(levels=LEVELS, calls=tuple(FILLED), fault="shown", limit=4)[2], "changed")


def view(rows, held, boxes=(), levels=LEVELS, level="high"):
    """Returns a view of a level with some rows, names held and loose boxes."""
    return View(levels.names(), levels.downs(level), dict(rows), {(): (), **dict(held)}, dict(boxes))


class WordTests(unittest.TestCase):
    """Changes made by hand, in which several words could be told."""

    line = ("line", "s", "high", None, low(1))
    pocket = ("pocket", "p", "low", "high", ())

    def full(self, names, rows=None, boxes=()):
        """Returns the view of high with nodes in the box of the pocket low.1."""
        rows = {name: self.line for name in names} if rows is None else rows
        held = {(): (low(1),), low(1): names, **{name: () for name in rows if rows[name][3] is None}}
        return view({low(1): self.pocket, **rows}, held, boxes)

    def found(self, before, behind, maker="low"):
        return Change("high", before, behind).first_found(maker)

    def test_nothing(self):
        self.assertIsNone(self.found(self.full((high(1),)), self.full((high(1),))))
        self.assertIsNone(self.found(self.full((high(1),)), self.full((high(1),)), None))

    def test_what_is_gone_comes_before_what_is_new(self):
        self.assertEqual(self.found(self.full((high(1),)), self.full((high(2),))), ("gone", high(1)))
        self.assertEqual(self.found(self.full(()), self.full((high(2),))), ("new", high(2)))

    def test_the_first_node_comes_before_the_first_word(self):
        before = self.full((high(1), high(2)))
        self.assertEqual(self.found(before, self.full((high(3), high(1)))), ("order", high(1)))
        self.assertEqual(self.found(before, self.full((high(2),))), ("gone", high(1)))
        changed = {high(1): ("line", "x", "high", None, low(1))}
        self.assertEqual(self.found(before, self.full((high(1),), changed)), ("changed", high(1)))

    def test_each_part_that_may_be_changed(self):
        before = self.full((high(1),))
        for place, part in enumerate(["item", "x", "low", "top", low(2)]):
            row = (*self.line[:place], part, *self.line[place + 1:])
            # A row of another level is not new, and that of a node of the level is changed.
            self.assertEqual(self.found(before, self.full((high(1),), {high(1): row})), ("changed", high(1)))

    def test_changed_comes_before_order(self):
        rows = {high(2): self.line, high(1): ("line", "x", "high", None, low(1))}
        self.assertEqual(self.found(self.full((high(1), high(2))), self.full((high(2), high(1)), rows)), ("changed", high(1)))

    def test_new_unless_the_call_may_have_copied_it(self):
        copied = (*high(1), ("low", "", 2))
        row = ("line", "s", "high", None, (*low(1), ("low", "", 2)))
        before = self.full((high(1),))
        rows = {**before.rows, (*low(1), ("low", "", 2)): self.pocket, copied: row}
        held = {(): (low(1), (*low(1), ("low", "", 2))), low(1): (high(1),), high(1): (), copied: (), (*low(1), ("low", "", 2)): (copied,)}
        self.assertIsNone(self.found(before, view(rows, held)))
        self.assertEqual(self.found(before, view(rows, held), None), ("new", copied))
        self.assertEqual(self.found(before, view(rows, held), "mid"), ("new", copied))
        gone = {name: rows[name] for name in rows if name != high(1)}
        pockets = {name: rows[name] for name in gone if name != copied}
        empty = view(pockets, {**held, low(1): (), (*low(1), ("low", "", 2)): ()})
        self.assertEqual(self.found(empty, view(gone, {**held, low(1): ()})), ("new", copied))
        for place, part in enumerate(["item", "x", None, "top", low(1)]):
            if part is not None:
                other = {**rows, copied: (*row[:place], part, *row[place + 1:])}
                self.assertEqual(self.found(before, view(other, held)), ("copy", copied))

    def test_a_plain_copy_holds_copies(self):
        mark = ("low", "", 2)
        box, one, two = (*low(1), mark), (*high(1), mark), (*high(2), mark)
        source = {low(1): self.pocket, high(1): self.line, high(2): ("line", "t", "high", None, high(1))}
        holds = {(): (low(1), box), low(1): (high(1),), high(1): (high(2),), high(2): ()}
        before = view(source, {**holds, (): (low(1),)})
        rows = {**source, box: self.pocket, one: ("line", "s", "high", None, box), two: ("line", "t", "high", None, one)}
        good = {**holds, box: (one,), one: (two,), two: ()}
        self.assertIsNone(self.found(before, view(rows, good)))
        less = {name: rows[name] for name in rows if name != two}
        self.assertEqual(self.found(before, view(less, {**good, one: ()})), ("copy", one))
        self.assertEqual(self.found(before, view(rows, {**good, box: (one, two)})), ("copy", box))

    def test_new_pockets_have_empty_boxes(self):
        empty = view({}, {})
        row = ("line", "s", "high", None, low(1))
        self.assertIsNone(self.found(empty, view({low(1): self.pocket}, {(): (low(1),), low(1): ()})))
        # A node of another level in a box of high cannot be; so only the box tells of what is in it.
        other = ("line", "s", "low", None, low(1))
        filled = view({low(1): self.pocket, low(2): other}, {(): (low(1),), low(1): (low(2),), low(2): ()})
        self.assertEqual(self.found(empty, filled), ("copy", low(1)))
        self.assertIsNone(self.found(empty, filled, None))
        seen = view({low(2): other, high(1): row}, {(): (), low(1): (low(2),), low(2): (), high(1): ()}, {low(1): "high"})
        self.assertEqual(self.found(seen, filled, "low"), None)

    def test_copies_whose_source_is_not_seen_into(self):
        name = (*low(1), ("low", "", 2))
        other = ("line", "s", "low", None, name)
        filled = view({name: self.pocket, low(2): other}, {(): (name,), name: (low(2),), low(2): ()})
        self.assertIsNone(self.found(view({}, {}), filled))
        loose = view({name: self.pocket, low(2): other}, {(): (name,), name: (low(2),), low(2): (), low(1): ()}, {low(1): "high"})
        self.assertEqual(self.found(view({}, {}), loose), ("copy", name))


class RandomTests(unittest.TestCase):
    def test_engines_without_a_fault_lose_nothing(self):
        for seed, levels, limit, calls in busy_cases(60, 35):
            self.assertIsNone(first_loss(levels, calls, "", limit), seed)

    def test_random_calls_of_engines_with_faults(self):
        found = {fault: [] for fault in FAULTS}
        for seed, levels, limit, calls in busy_cases(35, 30):
            for fault in FAULTS:
                loss = first_loss(levels, calls, fault, limit)
                self.assertEqual(loss, loss_slowly(levels, calls, fault, limit), (seed, fault))
                if loss is not None:
                    found[fault].append(loss[2])
        self.assertEqual([fault for fault in FAULTS if found[fault]], ["undos", "shown", "emptied", "shallow", "stolen"])
        words = {word for fault in FAULTS for word in found[fault]}
        self.assertGreaterEqual(words, {"gone", "changed", "copy"})

    def test_one_level_alone(self):
        for seed in range(5):
            calls = busy_calls(seed, ORDERS[4], 30)[0]
            for fault in FAULTS:
                self.assertIsNone(first_loss(ORDERS[4], calls, fault))


if __name__ == "__main__":
    unittest.main()
