"""Tests of bases and offline copies ([20]) and of their way home ([21])."""

import itertools
import random
import unittest

from helpers import diamond, high, low, seen_of, told, two_levels
from maskededits.engine import Engine
from maskededits.errors import BadRecords, InvalidLevel, InvalidName
from maskededits.levels import Levels
from maskededits.moments import Past
from maskededits.records import Record, records_in_order
from maskededits.replicas import Copy, Home, base_of
from maskededits.texts import format_view
from model import history

ORDERS = [
    Levels(["low", "high"]),
    Levels(["low", "east", "west", "top"], [("east", "top"), ("west", "top")]),
    Levels(["low", "mid", "high"], [("mid", "high")]),
    Levels(["a", "b", "c", "d", "e"], [("b", "d"), ("c", "d"), ("d", "e")]),
]
NO_MARKS = [None, 0, "low.pad.1", (), ("low", "pad"), ("low", "pad", 1, 1), ("low", "pad", True), ["low", "pad", 1], {},
            (("low", "pad", 1),), ("low", "pad", 9), ("high", "pad", 1), ("low", "", 1)]
LINE = ("insert", (), 0, "line", "")


def mark(level, source, number):
    return (level, source, number)


def desk():
    """Returns an engine: low.1 line, and pocket low.2 {high} with high.1 line; and its base for high."""
    engine = two_levels()
    told(engine, "low", ("insert", (), 0, "line", "a"), ("pocket", (), 1, "high", "p"))
    told(engine, "high", ("insert", low(2), 0, "line", "h"))
    return engine, base_of(engine, "high")


def copy_of(level, source, **named):
    return Copy(Levels(["low", "high"]), desk()[1], level, source, **named)


def done(copy, *deeds):
    """Does deeds that must be accepted and returns what is told."""
    answers = [copy.perform(deed) for deed in deeds]
    if any(answer[0] != "told" for answer in answers):
        raise AssertionError((deeds, answers))
    return [answer[1] for answer in answers]


def records_of(copy):
    return list(copy.records())


def marks_of(copy):
    return [record.mark for record in copy.records()]


def played(levels, base, records, limit):
    """Returns an engine and answers, as [19] and [20] say it, for a base and records in their order."""
    engine, answers = Engine(levels, limit=limit), {}
    for level, deed, value in base:
        makes = deed[0] in ("insert", "pocket", "copy", "box", "typed") and value[-1][1] != ""
        engine.perform(level, deed, mark=value[-1] if makes else None)
    for record in records:
        level = record.mark[0]
        answers[record.mark] = engine.perform(level, record.act, mark=record.first)
        if answers[record.mark][0] == "refused" and record.act[0] == "pocket":
            engine.perform(level, ("box", record.act[3]), mark=record.first)
    return engine, answers


class BaseTests(unittest.TestCase):
    def test_a_small_base(self):
        engine, base = desk()
        self.assertEqual(base, (("low", ("insert", (), 0, "line", "a"), low(1)), ("low", ("pocket", (), 1, "high", "p"), low(2)),
                                ("high", ("insert", low(2), 0, "line", "h"), high(1))))
        self.assertEqual(base_of(engine, "low"), base[:2])
        self.assertEqual([base_of(two_levels(), "low"), base_of(two_levels(), "high")], [(), ()])

    def test_levels_that_are_none(self):
        for thing in [None, "", "none", 0, ["low"], {}]:
            with self.assertRaises(InvalidLevel) as caught:
                base_of(desk()[0], thing)
            self.assertIs(caught.exception.value, thing)

    def test_the_order_is_that_of_the_past(self):
        for seed in range(30):
            levels = ORDERS[seed % len(ORDERS)]
            engine = Engine(levels)
            for level, deed, _ in history(seed, levels, 30)[0]:
                engine.perform(level, deed)
            for level in levels.names():
                past, logs = Past(engine, level), {each: engine.log(each) for each in levels.names()}
                due = [(each, *logs[each][number - 1]) for each, number, needs, deed in past.records(past.start, past.now)]
                self.assertEqual(base_of(engine, level), tuple(due))

    def test_a_base_is_not_the_log_in_its_order(self):
        engine = diamond()
        told(engine, "low", ("pocket", (), 0, "east", ""), ("pocket", (), 1, "west", ""))
        told(engine, "west", ("insert", low(2), 0, "line", ""))
        told(engine, "east", ("insert", low(1), 0, "line", ""))
        self.assertEqual([row[0] for row in base_of(engine, "top")], ["low", "low", "east", "west"])


class CopyTests(unittest.TestCase):
    def test_a_copy_shows_its_base(self):
        engine, base = desk()
        for level in ("low", "high"):
            copy = Copy(engine.levels, base, level, "pad")
            self.assertEqual(copy.view(), engine.view(level))
            self.assertEqual([len(copy), records_of(copy)], [0, []])

    def test_deeds_are_records(self):
        copy = copy_of("low", "pad")
        values = done(copy, ("insert", (), 0, "line", "x"), ("change", low(1), "y"), ("pocket", (), 0, "high", "q"),
                      ("copy", low(2), (), 0), ("move", low(1), (), 0), ("delete", low(1)))
        self.assertEqual(values, [low(1, "pad"), "a", low(2, "pad"), (*low(2), mark("low", "pad", 3)), None, 1])
        firsts = [mark("low", "pad", 1), None, mark("low", "pad", 2), mark("low", "pad", 3), None, None]
        self.assertEqual([[record.mark, record.stamp, record.after, record.first] for record in copy.records()],
                         [[mark("low", "pad", at + 1), at + 1, None, first] for at, first in enumerate(firsts)])
        self.assertEqual([record.act[0] for record in copy.records()], ["insert", "change", "pocket", "copy", "move", "delete"])
        self.assertTrue(all(isinstance(record, Record) for record in copy.records()))
        self.assertEqual([copy.answer(record.mark) for record in copy.records()], [("told", value) for value in values])
        self.assertEqual(len(copy), 6)
        self.assertEqual([copy.view()[name][:2] for name in copy.view().holds(())],
                         [("pocket", "p"), ("pocket", "q"), ("line", "x"), ("pocket", "p")])

    def test_other_deeds_are_refused(self):
        copy = copy_of("low", "pad")
        for deed in [("undo",), ("redo",), ("box", "high"), ("typed", ("line", "", ()), (), 0), ("script", ""), (), None, 5, "undo",
                     ("insert",), ("insert", (), 0, "pocket", ""), ("change", low(1), 5), ("look",), ("delete", "low.1"), ["undo"],
                     ("insert", (), True, "line", ""), ("clock",), {}]:
            self.assertEqual(copy.perform(deed), ("refused", "deed", deed))
        self.assertEqual([len(copy), copy.view()], [0, desk()[0].view("low")])

    def test_what_is_refused_makes_no_record(self):
        copy = copy_of("low", "pad", limit=3)
        for deed, answer in [(("delete", high(1)), ("refused", "name", high(1))), (("change", low(9), ""), ("refused", "name", low(9))),
                             (("insert", (), 3, "line", ""), ("refused", "place", 3)),
                             (("pocket", (), 0, "low", ""), ("refused", "above", "low")),
                             (("move", low(1), low(1), 0), ("refused", "inside", low(1)))]:
            self.assertEqual(copy.perform(deed), answer)
        self.assertEqual(len(copy), 0)
        self.assertEqual(done(copy, LINE), [low(1, "pad")])
        self.assertEqual(copy.perform(LINE), ("refused", "full", 3))
        self.assertEqual(marks_of(copy), [mark("low", "pad", 1)])

    def test_levels_and_sources(self):
        engine, base = desk()
        for level in [None, "", "none", 0, ["low"], {}]:
            with self.assertRaises(InvalidLevel) as caught:
                Copy(engine.levels, base, level, None)
            self.assertIs(caught.exception.value, level)
        for source in ["", None, 0, True, "Pad", "ninesigns", ("pad",), ["pad"], {}, b"pad"]:
            with self.assertRaises(InvalidName) as caught:
                Copy(engine.levels, base, "low", source)
            self.assertIs(caught.exception.value, source)

    def test_sources_that_are_taken(self):
        engine, base = desk()
        one, two = Copy(engine.levels, base, "high", "pad"), Copy(engine.levels, base, "low", "tab")
        done(one, ("insert", low(2), 0, "line", ""))
        done(two, LINE, ("copy", low(2), (), 0))
        Home(engine).take(one)
        Home(engine).take(two)
        whole = base_of(engine, "high")
        for level, source in [("high", "pad"), ("high", "tab"), ("low", "tab")]:
            with self.assertRaises(InvalidName) as caught:
                Copy(engine.levels, whole, level, source)
            self.assertEqual(caught.exception.value, source)
        # What is above the level is not kept, so its sources are free.
        for level, source in [("low", "pad"), ("high", "new")]:
            self.assertEqual(Copy(engine.levels, whole, level, source).view(), engine.view(level))

    def test_a_copy_keeps_what_is_of_its_level_or_below(self):
        engine, base = desk()
        self.assertEqual(Copy(engine.levels, base, "low", "pad"), Copy(engine.levels, base_of(engine, "low"), "low", "pad"))
        self.assertEqual(Copy(engine.levels, base, "low", "a").view(), engine.view("low"))

    def test_stamps_and_afters(self):
        one, two, three = copy_of("low", "a"), copy_of("low", "b"), copy_of("high", "c")
        done(three, ("insert", low(2), 0, "line", ""))
        done(one, LINE, LINE)
        done(two, LINE)
        three.merge(two)
        done(three, ("change", high(1), "x"))
        three.merge(one)
        done(three, ("change", high(1), "y"))
        rows = {record.mark: (record.stamp, record.after) for record in three.records()}
        self.assertEqual(rows, {
            mark("high", "c", 1): (1, None), mark("low", "a", 1): (1, None), mark("low", "b", 1): (1, None),
            mark("low", "a", 2): (2, None), mark("high", "c", 2): (2, mark("low", "b", 1)),
            mark("high", "c", 3): (3, mark("low", "a", 2))})
        self.assertEqual(marks_of(three), [mark("high", "c", 1), mark("low", "a", 1), mark("low", "b", 1), mark("high", "c", 2),
                                           mark("low", "a", 2), mark("high", "c", 3)])
        one.merge(two)
        done(one, LINE)
        self.assertEqual([(record.mark, record.stamp) for record in one.records()][-1], (mark("low", "a", 3), 3))

    def test_numbers_go_on_behind_refused_records(self):
        one, two = copy_of("low", "a", limit=3), copy_of("low", "b", limit=3)
        done(one, LINE)
        done(two, LINE)
        self.assertEqual(two.merge(one), [mark("low", "b", 1)])
        self.assertEqual(two.answer(mark("low", "b", 1)), ("refused", "full", 3))
        done(two, ("delete", low(1)))
        self.assertEqual(done(two, LINE), [low(2, "b")])
        self.assertEqual([record.mark for record in two.records()][-1], mark("low", "b", 3))

    def test_held_marks(self):
        copy = copy_of("low", "pad")
        done(copy, LINE)
        self.assertIn(mark("low", "pad", 1), copy)
        for thing in NO_MARKS:
            self.assertNotIn(thing, copy)
            with self.assertRaises(BadRecords) as caught:
                copy.answer(thing)
            self.assertIs(caught.exception.value, thing)

    def test_twins_and_equality(self):
        engine, base = desk()
        one = copy_of("high", "pad")
        done(one, ("insert", low(2), 0, "line", ""))
        twin = one.twin()
        self.assertTrue(one == twin and not one != twin)
        self.assertEqual(twin.view(), one.view())
        done(twin, ("insert", low(2), 0, "line", "x"))
        self.assertEqual([len(one), len(twin), one == twin], [1, 2, False])
        self.assertEqual([twin.level, twin.source, twin.view() == one.view()], ["high", "pad", False])
        self.assertEqual(copy_of("low", "a"), copy_of("low", "b"))
        self.assertNotEqual(copy_of("low", "a"), copy_of("high", "a"))
        self.assertNotEqual(copy_of("low", "a"), copy_of("low", "a", limit=41))
        self.assertEqual(Copy(engine.levels, (), "low", "a"), Copy(engine.levels, (), "low", "a"))
        self.assertNotEqual(Copy(engine.levels, (), "low", "a"), copy_of("low", "a"))
        for thing in [None, 0, base, engine, "low"]:
            self.assertFalse(one == thing)

    def test_records_are_those_of_the_moment(self):
        copy = copy_of("low", "pad")
        done(copy, LINE)
        for record in copy.records():
            done(copy, LINE)
        self.assertEqual(len(copy), 2)


class MergeTests(unittest.TestCase):
    def test_merging_both_ways(self):
        one, two = copy_of("low", "a"), copy_of("low", "b")
        done(one, ("change", low(1), "x"), ("insert", (), 0, "line", "of a"))
        done(two, ("change", low(1), "y"), ("insert", (), 0, "line", "of b"))
        both, other = one.joined(two), two.joined(one)
        self.assertEqual(both, other)
        self.assertEqual(both.view(), other.view())
        self.assertEqual(marks_of(both), [mark("low", "a", 1), mark("low", "b", 1), mark("low", "a", 2), mark("low", "b", 2)])
        self.assertEqual([both.answer(each) for each in marks_of(both)],
                         [("told", "a"), ("told", "x"), ("told", low(1, "a")), ("told", low(1, "b"))])
        self.assertEqual([len(one), len(two), both.source, both.level], [2, 2, "a", "low"])
        self.assertEqual(both.merge(two), [])
        self.assertEqual(both.merge(both), [])
        self.assertEqual(both, other)

    def test_what_merge_returns(self):
        one, two = copy_of("low", "a"), copy_of("low", "b")
        done(one, ("change", low(1), "x"), ("delete", low(1)))
        done(two, ("change", low(1), "y"), ("move", low(1), (), 0), ("change", low(1), "z"), LINE)
        self.assertEqual(one.twin().merge(two), [])
        self.assertEqual(two.merge(one), [mark("low", "b", number) for number in (1, 2, 3)])
        self.assertEqual([two.answer(mark("low", "b", number)) for number in (1, 2, 3, 4)],
                         [("told", "x"), ("refused", "name", low(1)), ("refused", "name", low(1)), ("told", low(1, "b"))])
        three = copy_of("low", "c")
        done(three, ("delete", low(1)))
        self.assertEqual(two.merge(three), [mark("low", "a", 2)])

    def test_the_box_of_a_refused_pocket_stays(self):
        one, two, three = copy_of("low", "a"), copy_of("low", "b"), copy_of("high", "c")
        done(one, ("delete", low(1)))
        done(two, ("insert", (), 1, "list", ""), ("pocket", (), 3, "high", "new"))
        three.merge(two)
        done(three, ("insert", low(2, "b"), 0, "line", "in"))
        self.assertEqual(three.merge(one), [mark("low", "b", 2)])
        self.assertEqual(three.answer(mark("low", "b", 2)), ("refused", "place", 3))
        self.assertEqual(three.answer(mark("high", "c", 1)), ("told", high(1, "c")))
        self.assertEqual(format_view(three.view()).split("\n")[-2:], ["loose low.b.2", '  line high.c.1 "in"'])

    def test_a_copy_of_a_higher_level_takes_records_of_a_lower_one(self):
        one, two = copy_of("low", "a"), copy_of("high", "b")
        done(one, ("copy", low(2), (), 0))
        done(two, ("insert", low(2), 0, "line", ""))
        two.merge(one)
        self.assertEqual([len(two), len(one)], [2, 1])
        self.assertEqual(two.answer(mark("low", "a", 1)), one.answer(mark("low", "a", 1)))
        with self.assertRaises(InvalidLevel) as caught:
            one.merge(two)
        self.assertEqual([caught.exception.value, len(one)], ["high", 1])

    def test_errors_in_their_order(self):
        levels, base = Levels(["low", "high"]), desk()[1]
        mine = Copy(levels, base, "low", "a")
        done(mine, LINE)
        others = [
            (Copy(Levels(["low", "high", "top"]), base, "high", "b", limit=7), InvalidLevel, "high"),
            (Copy(Levels(["low", "high", "top"]), base, "low", "b"), BadRecords, "b"),
            (Copy(levels, base, "low", "c", limit=7), BadRecords, "c"),
            (Copy(levels, base[:1], "low", "d"), BadRecords, "d"),
            (Copy(levels, (), "low", "e"), BadRecords, "e"),
            (Copy(Levels(["low", "other"]), (), "other", "f"), InvalidLevel, "other"),
        ]
        for other, error, value in others:
            for act in (mine.merge, mine.joined):
                with self.assertRaises(error) as caught:
                    act(other)
                self.assertEqual(caught.exception.value, value)
        self.assertEqual(len(mine), 1)

    def test_bases_are_compared_in_what_is_of_the_level_of_the_other(self):
        engine, base = desk()
        above = Copy(engine.levels, base, "high", "a")
        told(engine, "high", ("change", high(1), "later"))
        later = Copy(engine.levels, base_of(engine, "high"), "low", "b")
        done(later, LINE)
        self.assertEqual(above.merge(later), [])
        with self.assertRaises(BadRecords) as caught:
            above.merge(Copy(engine.levels, base_of(engine, "high"), "high", "c"))
        self.assertEqual(caught.exception.value, "c")

    def test_bases_that_a_higher_level_orders_otherwise_are_the_same(self):
        levels = Levels(["a", "b", "c", "d", "e"], [("b", "d"), ("c", "d"), ("d", "e")])
        engine = Engine(levels)
        told(engine, "a", ("pocket", (), 0, "b", ""), ("pocket", (), 1, "c", ""), ("pocket", (), 2, "e", ""))
        box = [(("a", "", number),) for number in (1, 2, 3)]
        told(engine, "c", ("insert", box[1], 0, "line", ""))
        told(engine, "e", ("insert", box[2], 0, "line", ""))
        told(engine, "b", ("insert", box[0], 0, "line", ""))
        self.assertEqual([row[0] for row in base_of(engine, "e")], ["a", "a", "a", "c", "e", "b"])
        self.assertEqual([row[0] for row in base_of(engine, "d")], ["a", "a", "a", "b", "c"])
        one, two = Copy(levels, base_of(engine, "e"), "e", "x"), Copy(levels, base_of(engine, "d"), "d", "y")
        self.assertEqual(one.merge(two), [])
        self.assertEqual(two, Copy(levels, base_of(engine, "e"), "d", "z"))

    def test_unequal_records(self):
        one = copy_of("low", "a")
        done(one, LINE)
        two = one.twin()
        done(one, ("change", low(1), "x"), LINE)
        done(two, ("change", low(1), "y"), ("delete", low(1)))
        for mine, other in [(one, two), (two, one)]:
            before = (records_of(mine), mine.view())
            for act in (mine.merge, mine.joined):
                with self.assertRaises(BadRecords) as caught:
                    act(other)
                self.assertEqual(caught.exception.value, mark("low", "a", 2))
            self.assertEqual((records_of(mine), mine.view()), before)

    def test_a_twin_that_has_more_records(self):
        one = copy_of("low", "a")
        done(one, LINE)
        two = one.twin()
        done(two, LINE, LINE)
        self.assertEqual([one.merge(two), one == two, two.merge(one)], [[], True, []])
        self.assertEqual(done(one, LINE), [low(4, "a")])
        self.assertEqual(marks_of(one)[-1], mark("low", "a", 4))


class World:
    """Copies of all levels, two of each, at which random deeds are done and which merge at random."""

    def __init__(self, seed):
        self.levels = ORDERS[seed % len(ORDERS)]
        self.limit = [40, 40, 4][seed % 3]
        self.engine = Engine(self.levels, limit=self.limit)
        calls, self.model = history(seed, self.levels, 12, self.limit)
        for level, deed, _ in calls:
            self.engine.perform(level, deed)
        self.base = base_of(self.engine, self.levels.names()[-1])
        self.random = random.Random(seed)
        self.copies = [Copy(self.levels, base_of(self.engine, level), level, source, limit=self.limit)
                       for level in self.levels.names() for source in ("pad", "tab")]

    def deed(self, copy):
        view, chance = copy.view(), self.random
        own = [name for name in view.walk() if view[name][2] == copy.level] or [()]
        holders = [name for name in [(), *view.loose, *view.walk()] if self.inner(view, copy, name) == copy.level] or [()]
        holder, name = chance.choice(holders), chance.choice(own)
        place = chance.randint(0, len(view.holds(holder) or ()))
        above = [level for level in self.levels.ups(copy.level)]
        return chance.choice([LINE[:1] + (holder, place, "line", "x"), ("insert", holder, place, "list", ""),
                              ("pocket", holder, place, chance.choice(above), ""), ("change", name, chance.choice("abc")),
                              ("move", name, holder, place), ("copy", name, holder, place), ("delete", name)])

    def inner(self, view, copy, name):
        if name == ():
            return self.levels.least
        if name in view.loose:
            return view.loose[name]
        return view[name][3] or view[name][2]

    def go_on(self, many):
        for _ in range(many):
            copy = self.random.choice(self.copies)
            if self.random.random() < 0.75:
                copy.perform(self.deed(copy))
            else:
                other = self.random.choice(self.copies)
                if self.levels.leq(other.level, copy.level):
                    copy.merge(other)


class RandomTests(unittest.TestCase):
    def test_copies_tell_what_the_order_says(self):
        refused = 0
        for seed in range(40):
            world = World(seed)
            for _ in range(5):
                world.go_on(12)
                for copy in world.copies:
                    rows = records_of(copy)
                    self.assertEqual(rows, records_in_order(world.levels, rows))
                    self.assertEqual(len(copy), len(rows))
                    for level in world.levels.downs(copy.level):
                        base = [row for row in base_of(world.engine, level)]
                        engine, answers = played(world.levels, base, [
                            record for record in rows if world.levels.leq(record.mark[0], level)], world.limit)
                        self.assertEqual({each: copy.answer(each) for each in answers}, answers)
                        if level == copy.level:
                            self.assertEqual(engine.view(level), copy.view())
                    refused += sum(copy.answer(record.mark)[0] == "refused" for record in rows)
        self.assertGreater(refused, 50)

    def test_merging_is_commutative_associative_and_idempotent(self):
        for seed in range(40):
            world = World(seed)
            world.go_on(50)
            level = world.random.choice(world.levels.names())
            same = [copy for copy in world.copies if copy.level == level]
            lower = [copy for copy in world.copies if world.levels.leq(copy.level, level)]
            results = []
            for _ in range(5):
                world.random.shuffle(lower)
                start = world.random.choice(same).twin()
                for other in lower:
                    start.merge(other)
                    self.assertEqual(start.merge(other), [])
                results.append(start)
            self.check_alike(results)
            one, two = same[0], same[1]
            self.check_alike([one.joined(two), two.joined(one)])
            three = world.random.choice(lower)
            self.check_alike([one.joined(two).joined(three), one.joined(two.joined(three)), two.joined(three).joined(one)])

    def check_alike(self, copies):
        for copy in copies[1:]:
            self.assertEqual(copy, copies[0])
            self.assertEqual(records_of(copy), records_of(copies[0]))
            self.assertEqual(copy.view(), copies[0].view())
            self.assertEqual([copy.answer(each) for each in marks_of(copy)], [copies[0].answer(each) for each in marks_of(copy)])

    def test_what_merge_returns(self):
        changed = 0
        for seed in range(40):
            world = World(seed)
            world.go_on(50)
            for one, two in itertools.product(world.copies, world.copies):
                if world.levels.leq(two.level, one.level):
                    behind = one.twin()
                    found = behind.merge(two)
                    due = [each for each in marks_of(behind) if each in one and one.answer(each) != behind.answer(each)]
                    self.assertEqual(found, due)
                    changed += len(due)
                    self.assertEqual(sorted(marks_of(behind)), sorted(set(marks_of(one)) | set(marks_of(two))))
        self.assertGreater(changed, 20)

    def test_the_order_never_changes(self):
        for seed in range(30):
            world, orders = World(seed), {}
            for _ in range(30):
                world.go_on(2)
                for index, copy in enumerate(world.copies):
                    now = marks_of(copy)
                    self.assertEqual([each for each in now if each in orders.get(index, [])], orders.get(index, []))
                    orders[index] = now

    def test_a_lower_copy_tells_what_a_higher_one_tells(self):
        for seed in range(30):
            world = World(seed)
            world.go_on(40)
            for one in world.copies:
                for two in world.copies:
                    if one.level != two.level and world.levels.leq(one.level, two.level):
                        joined = two.joined(one)
                        lower = [each for each in marks_of(joined) if world.levels.leq(each[0], one.level)]
                        if sorted(lower) == sorted(marks_of(one)):
                            self.assertEqual([joined.answer(each) for each in lower], [one.answer(each) for each in lower])


class ReasonTests(unittest.TestCase):
    def test_records_of_lower_levels_without_copies_refuse_nothing(self):
        # Each level has one source here, so no other record of its own level can be in the way.
        told_of = 0
        for seed in range(60):
            world = World(seed)
            world.copies = world.copies[::2]
            for _ in range(60):
                copy = world.random.choice(world.copies)
                deed = world.deed(copy)
                if world.random.random() < 0.3:
                    other = world.random.choice(world.copies)
                    if world.levels.leq(other.level, copy.level):
                        self.assertEqual(copy.merge(other), [])
                elif deed[0] != "copy":
                    copy.perform(deed)
            for copy in world.copies:
                for other in world.copies:
                    if world.levels.leq(other.level, copy.level):
                        self.assertEqual(copy.merge(other), [], seed)
                told_of += len(copy)
                self.assertEqual([record.mark for record in copy.records() if copy.answer(record.mark)[0] == "refused"], [])
        self.assertGreater(told_of, 500)

    def test_a_record_is_refused_if_the_piece_that_it_works_in_was_not_copied(self):
        one, two, three = copy_of("low", "a"), copy_of("low", "b"), copy_of("high", "c")
        done(one, ("delete", low(2)))
        done(two, LINE, ("copy", low(2), (), 0))
        three.merge(two)
        done(three, ("change", (*high(1), mark("low", "b", 2)), "x"), ("change", high(1), "y"))
        self.assertEqual(three.merge(one), [mark("low", "b", 2), mark("high", "c", 1)])
        self.assertEqual(three.answer(mark("high", "c", 2)), ("told", "h"))


class HomeTests(unittest.TestCase):
    def test_records_come_home_once_and_in_their_order(self):
        engine, base = desk()
        copy, home = Copy(engine.levels, base, "low", "pad"), Home(engine)
        done(copy, ("insert", (), 0, "line", "x"), ("change", low(1), "y"))
        self.assertEqual(home.take(copy), [(mark("low", "pad", 1), ("told", low(1, "pad"))), (mark("low", "pad", 2), ("told", "a"))])
        self.assertEqual(engine.view("low"), copy.view())
        self.assertEqual(home.take(copy), [])
        done(copy, ("delete", low(1)))
        self.assertEqual(home.take(copy.twin()), [(mark("low", "pad", 3), ("told", 1))])
        self.assertEqual(home.marks(), [mark("low", "pad", number) for number in (1, 2, 3)])
        self.assertEqual([len(home), mark("low", "pad", 3) in home, mark("low", "pad", 4) in home], [3, True, False])
        self.assertEqual(engine.log("low")[-1], (("delete", low(1)), 1))
        self.assertEqual(engine.perform("low", ("undo",)), ("told", "delete"))

    def test_records_of_other_levels_come_home_by_copies_of_these_levels(self):
        engine, base = desk()
        below, above, home = Copy(engine.levels, base, "low", "a"), Copy(engine.levels, base, "high", "b"), Home(engine)
        done(above, ("insert", low(2), 0, "line", "one"))
        done(below, ("pocket", (), 0, "high", "new"))
        above.merge(below)
        done(above, ("insert", low(1, "a"), 0, "line", "two"), ("change", high(1), "three"))
        first, second, third = [mark("high", "b", number) for number in (1, 2, 3)]
        self.assertEqual([record.mark for record in above.records()], [first, mark("low", "a", 1), second, third])
        self.assertEqual(home.take(above), [(first, ("told", high(1, "b")))])
        self.assertEqual(home.take(above), [])
        self.assertEqual(home.take(below), [(mark("low", "a", 1), ("told", low(1, "a")))])
        self.assertEqual(home.take(above), [(second, ("told", high(2, "b"))), (third, ("told", "h"))])
        self.assertEqual(home.marks(), [first, mark("low", "a", 1), second, third])
        self.assertEqual(engine.view("high"), above.view())

    def test_refused_records_and_the_boxes_of_refused_pockets(self):
        engine, base = desk()
        copy, home = Copy(engine.levels, base, "low", "pad"), Home(engine)
        done(copy, ("delete", low(1)), ("insert", (), 0, "list", ""), ("pocket", low(2, "pad")[:0], 2, "high", "q"),
             ("change", low(2), "new"))
        told(engine, "low", ("delete", low(2)))
        self.assertEqual(home.take(copy), [
            (mark("low", "pad", 1), ("told", 1)), (mark("low", "pad", 2), ("told", low(1, "pad"))),
            (mark("low", "pad", 3), ("refused", "place", 2)), (mark("low", "pad", 4), ("refused", "name", low(2)))])
        self.assertEqual(engine.view("high").loose, {low(2): "high", low(2, "pad"): "high"})
        self.assertEqual(engine.log("low")[-1], (("box", "high"), low(2, "pad")))
        self.assertEqual([home.take(copy), len(home)], [[], 4])

    def test_marks_that_are_handed_in(self):
        engine, base = desk()
        copy = Copy(engine.levels, base, "low", "pad")
        done(copy, LINE, LINE)
        Home(engine).take(copy)
        done(copy, LINE)
        marks = [mark("low", "pad", 2), mark("low", "pad", 1), mark("high", "none", 7)]
        home = Home(engine, taken=marks)
        self.assertEqual([home.marks(), len(home)], [marks, 3])
        self.assertEqual(home.take(copy), [(mark("low", "pad", 3), ("told", low(3, "pad")))])
        self.assertEqual(home.marks(), [*marks, mark("low", "pad", 3)])
        self.assertEqual(len(marks), 3)
        home.marks().clear()
        marks.clear()
        self.assertEqual([len(home), len(Home(engine)), len(Home(engine, taken=tuple(home.marks())))], [4, 0, 4])

    def test_another_record_under_a_mark(self):
        engine, base = desk()
        one = Copy(engine.levels, base, "low", "pad")
        done(one, LINE)
        two = one.twin()
        done(one, ("change", low(1), "x"), LINE)
        done(two, ("change", low(1), "y"), LINE)
        home = Home(engine)
        home.take(one)
        before = (seen_of(engine, "low"), home.marks())
        with self.assertRaises(BadRecords) as caught:
            home.take(two)
        self.assertEqual(caught.exception.value, mark("low", "pad", 2))
        self.assertEqual((seen_of(engine, "low"), home.marks()), before)

    def test_another_record_of_a_lower_level_under_a_mark(self):
        engine, base = desk()
        one, above = Copy(engine.levels, base, "low", "a"), Copy(engine.levels, base, "high", "b")
        two = one.twin()
        done(one, LINE)
        done(two, ("delete", low(1)))
        done(above, ("change", high(1), "x"))
        above.merge(two)
        home = Home(engine)
        home.take(one)
        with self.assertRaises(BadRecords) as caught:
            home.take(above)
        self.assertEqual([caught.exception.value, len(home)], [mark("low", "a", 1), 1])
        self.assertEqual(engine.view("high")[high(1)][1], "h")

    def test_marks_in_home(self):
        engine, base = desk()
        home = Home(engine, taken=[mark("low", "pad", 1)])
        self.assertIn(mark("low", "pad", 1), home)
        for thing in NO_MARKS:
            self.assertNotIn(thing, home)
        self.assertIs(home.engine, engine)

    def test_an_engine_goes_on_behind_what_came_home(self):
        engine, base = desk()
        copy = Copy(engine.levels, base, "low", "pad")
        done(copy, LINE, ("copy", low(2), (), 0), ("pocket", (), 0, "high", ""))
        Home(engine).take(copy)
        told(engine, "low", LINE, ("undo",), ("delete", low(1, "pad")), ("script", 'insert(node("/"), 0, "line", "s");'))
        told(engine, "high", ("insert", low(3, "pad"), 0, "line", ""))
        whole = base_of(engine, "high")
        for level in ("low", "high"):
            self.assertEqual(Copy(engine.levels, whole, level, "new").view(), engine.view(level))
        new = Copy(engine.levels, whole, "high", "new")
        done(new, ("delete", high(2)))
        self.assertEqual(Home(engine).take(new), [(mark("high", "new", 1), ("told", 1))])
        self.assertEqual(engine.view("high"), new.view())

    def test_random_copies_come_home(self):
        for seed in range(30):
            world = World(seed)
            world.go_on(50)
            home, answers = Home(world.engine), {}
            again, taken = world.engine.twin(), []
            for _ in range(12):
                copy = world.random.choice(world.copies)
                found = home.take(copy)
                for record in copy.records():
                    if record.mark not in taken:
                        if record.mark[0] != copy.level:
                            break
                        taken.append(record.mark)
                        answers[record.mark] = self.played(again, record)
                self.assertEqual(found, [(each, answers[each]) for each in taken[len(taken) - len(found):]])
                self.assertEqual(home.marks(), taken)
                for level in world.levels.names():
                    self.assertEqual(seen_of(again, level), seen_of(world.engine, level))

    def played(self, engine, record):
        answer = engine.perform(record.mark[0], record.act, mark=record.first)
        if answer[0] == "refused" and record.act[0] == "pocket":
            engine.perform(record.mark[0], ("box", record.act[3]), mark=record.first)
        return answer


if __name__ == "__main__":
    unittest.main()
