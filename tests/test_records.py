"""Tests of records, their order and doing them again ([18], [19])."""

import itertools
import random
import unittest

from helpers import low
from maskededits.engine import Engine
from maskededits.errors import BadRecords
from maskededits.levels import Levels
from maskededits.records import Record, played_records, records_in_order

LEVELS = Levels(["low", "east", "west", "top"], [("east", "top"), ("west", "top")])
LINE = ("insert", (), 0, "line", "")


def record(level, source, number, stamp=1, after=None, act=LINE, first=None):
    return Record((level, source, number), stamp, after, act, first)


def mark(level, source, number):
    return (level, source, number)


def marks(records):
    return [each.mark for each in records]


class RecordTests(unittest.TestCase):
    def test_attributes(self):
        parts = [("low", "pad", 2), 3, ("least", "pad", 1), LINE, ("low", "pad", 7)]
        one = Record(*parts)
        self.assertEqual([one.mark, one.stamp, one.after, one.act, one.first], parts)
        other = Record(mark=parts[0], stamp=parts[1], after=parts[2], act=parts[3], first=parts[4])
        self.assertTrue(one == other and not one != other)

    def test_equality(self):
        choices = [(mark("low", "a", 1), mark("low", "a", 2)), (1, 2), (None, mark("low", "b", 1)), (LINE, ("delete", low(1))),
                   (None, mark("low", "a", 1))]
        rows = list(itertools.product(*choices))
        for at, one in enumerate(rows):
            for place, other in enumerate(rows):
                self.assertEqual(Record(*one) == Record(*other), at == place)
                self.assertEqual(Record(*one) != Record(*other), at != place)
        for thing in [None, rows[0], list(rows[0]), rows[0][0], 1]:
            self.assertFalse(Record(*rows[0]) == thing)


class OrderTests(unittest.TestCase):
    def test_no_records(self):
        self.assertEqual(records_in_order(LEVELS, []), [])

    def test_records_that_follow_none(self):
        rows = [record("top", "a", 1, 5), record("west", "b", 1, 1), record("west", "a", 1, 2), record("west", "a", 2, 1),
                record("west", "a", 3, 1), record("east", "", 1, 1), record("east", "a", 1, 1), record("low", "a", 1, 1)]
        due = [mark("top", "a", 1), mark("west", "a", 2), mark("west", "a", 3), mark("west", "b", 1), mark("west", "a", 1),
               mark("east", "", 1), mark("east", "a", 1), mark("low", "a", 1)]
        for seed in range(10):
            random.Random(seed).shuffle(rows)
            self.assertEqual(marks(records_in_order(LEVELS, rows)), due)

    def test_numbers_are_compared_as_numbers(self):
        rows = [record("low", "a", number) for number in (10, 9, 100, 2)]
        self.assertEqual([each[2] for each in marks(records_in_order(LEVELS, rows))], [2, 9, 10, 100])
        rows = [record("low", "a", 1, stamp) for stamp in (1,)] + [record("low", "a", 2, 10), record("low", "a", 3, 9)]
        self.assertEqual([each[2] for each in marks(records_in_order(LEVELS, rows))], [1, 3, 2])

    def test_records_that_follow_others(self):
        first, second = mark("low", "a", 1), mark("low", "a", 2)
        east = mark("east", "a", 1)
        rows = [record("low", "a", 1, 1), record("low", "a", 2, 2), record("east", "a", 1, 2, first),
                record("west", "a", 1, 2, first), record("top", "a", 1, 3, east), record("top", "b", 1, 3, first),
                record("east", "b", 1, 3, second), record("top", "c", 1, 1), record("east", "c", 1, 9, first)]
        due = [mark("top", "c", 1), first, mark("top", "b", 1), mark("west", "a", 1), east, mark("top", "a", 1),
               mark("east", "c", 1), second, mark("east", "b", 1)]
        for seed in range(10):
            random.Random(seed).shuffle(rows)
            self.assertEqual(marks(records_in_order(LEVELS, rows)), due)

    def random_records(self, chance, many):
        """Returns random records that were done by sources which each hold some records of the others."""
        held = {(level, source): [] for level in LEVELS.names() for source in "ab"}
        found = []
        for _ in range(many):
            level, source = chance.choice(sorted(held))
            for other in chance.sample(sorted(held), 2):
                if LEVELS.leq(other[0], level):
                    mine = held[level, source]
                    mine.extend([each for each in held[other] if each not in mine])
            mine = held[level, source]
            order = [each for each in records_in_order(LEVELS, mine) if LEVELS.above(level, each.mark[0])]
            number = 1 + sum(each.mark[:2] == (level, source) for each in mine)
            new = record(level, source, number, 1 + max([each.stamp for each in mine], default=0),
                         order[-1].mark if order else None)
            mine.append(new)
            found.append((new, [each.mark for each in mine if LEVELS.leq(each.mark[0], level)]))
        return found

    def test_the_order_does_not_change_when_records_are_added(self):
        for seed in range(30):
            chance = random.Random(seed)
            found = self.random_records(chance, 16)
            whole = marks(records_in_order(LEVELS, [each for each, before in found]))
            self.assertEqual(len(whole), 16)
            for each, before in found:
                for earlier in before:
                    self.assertLessEqual(whole.index(earlier), whole.index(each.mark))
            for level in LEVELS.names():
                part = [each for each, before in found if LEVELS.leq(each.mark[0], level)]
                self.assertEqual(marks(records_in_order(LEVELS, part)), [each for each in whole if LEVELS.leq(each[0], level)])
            for many in range(17):
                part = [each for each, before in found[:many]]
                kept = {each.mark for each in part}
                self.assertEqual(marks(records_in_order(LEVELS, part)), [each for each in whole if each in kept])

    def test_each_record_once(self):
        rows = [record("low", "a", 2, 2), record("low", "a", 1), record("low", "a", 2, 2), record("low", "a", 1)]
        self.assertEqual(marks(records_in_order(LEVELS, rows)), [mark("low", "a", 1), mark("low", "a", 2)])
        self.assertEqual(len(rows), 4)
        self.assertEqual(marks(records_in_order(LEVELS, tuple(rows))), [mark("low", "a", 1), mark("low", "a", 2)])

    def bad(self, rows):
        values = []
        for act in (records_in_order, played_records):
            with self.assertRaises(BadRecords) as caught:
                act(LEVELS, rows)
            values.append(caught.exception.value)
        self.assertEqual(values[0], values[1])
        return values[0]

    def test_records_that_differ(self):
        one = record("low", "a", 1)
        for other in [record("low", "a", 1, 2), record("low", "a", 1, 1, None, ("delete", low(1))),
                      record("low", "a", 1, 1, None, LINE, mark("low", "a", 1)),
                      record("low", "a", 1, 1, mark("low", "b", 1))]:
            self.assertEqual(self.bad([one, record("low", "b", 1), other]), mark("low", "a", 1))
        two, three = record("low", "b", 1), record("low", "b", 1, 9)
        self.assertEqual(self.bad([one, two, three, record("low", "a", 1, 2)]), mark("low", "b", 1))
        self.assertEqual(self.bad([one, two, record("low", "a", 1, 2), three]), mark("low", "a", 1))

    def test_records_that_follow_none_that_is_given(self):
        one = record("low", "a", 1)
        for level, after in [("top", mark("low", "b", 1)), ("low", mark("low", "a", 1)), ("east", mark("west", "a", 1)),
                             ("east", mark("top", "a", 1)), ("east", mark("east", "a", 1)), ("top", mark("low", "a", 2))]:
            rows = [one, record("west", "a", 1), record("top", "a", 1), record("east", "a", 1), record(level, "z", 1, 2, after)]
            self.assertEqual(self.bad(rows), (level, "z", 1))
        late = record("top", "y", 1, 2, mark("low", "b", 1))
        self.assertEqual(self.bad([record("top", "z", 1, 2, mark("low", "c", 1)), late]), mark("top", "z", 1))
        self.assertEqual(self.bad([late, record("low", "a", 1), record("low", "a", 1, 5)]), mark("low", "a", 1))
        self.assertEqual(marks(records_in_order(LEVELS, [record("top", "y", 1, 2, mark("low", "a", 1)), one])),
                         [mark("low", "a", 1), mark("top", "y", 1)])


class PlayTests(unittest.TestCase):
    def test_deeds_are_done_in_the_order(self):
        first = mark("low", "pad", 1)
        rows = [record("top", "tab", 1, 3, mark("low", "pad", 2), ("insert", low(2, "pad"), 0, "line", "t"), mark("top", "tab", 4)),
                record("low", "pad", 2, 2, None, ("pocket", (), 1, "top", "p"), mark("low", "pad", 2)),
                record("low", "pad", 1, 1, None, ("insert", (), 0, "line", "l"), first)]
        engine, answers = played_records(LEVELS, rows)
        self.assertIsInstance(engine, Engine)
        self.assertEqual(answers, {first: ("told", (first,)), mark("low", "pad", 2): ("told", low(2, "pad")),
                                   mark("top", "tab", 1): ("told", (mark("top", "tab", 4),))})
        self.assertEqual(engine.view("top").holds(low(2, "pad")), ((mark("top", "tab", 4),),))
        self.assertEqual([engine.clock("top"), engine.limit], [3, 40])

    def test_first_with_a_source_and_without(self):
        rows = [record("low", "", 1, 1, None, LINE, mark("low", "", 5)), record("low", "", 2, 2, None, LINE, mark("low", "", 9)),
                record("low", "pad", 1, 3, None, LINE, mark("low", "pad", 5)),
                record("low", "pad", 2, 4, None, ("copy", low(1), (), 0), mark("low", "pad", 7)),
                record("low", "pad", 3, 5, None, ("delete", low(2)))]
        engine, answers = played_records(LEVELS, rows)
        self.assertEqual([answer for answer in answers.values()], [
            ("told", low(1)), ("told", low(2)), ("told", low(5, "pad")), ("told", (*low(1), mark("low", "pad", 7))), ("told", 1)])
        self.assertEqual(engine.perform("low", LINE, "pad"), ("told", low(8, "pad")))
        self.assertEqual(engine.perform("low", LINE), ("told", low(3)))

    def test_deeds_that_are_refused_are_passed_over(self):
        rows = [record("low", "a", 1, 1, None, ("delete", low(9)), None),
                record("low", "a", 2, 2, None, ("insert", (), 4, "line", ""), mark("low", "a", 1)),
                record("low", "a", 3, 3, None, LINE, mark("low", "a", 2))]
        engine, answers = played_records(LEVELS, rows)
        self.assertEqual(list(answers.values()), [("refused", "name", low(9)), ("refused", "place", 4), ("told", low(2, "a"))])
        self.assertEqual(engine.log("low"), [(LINE, low(2, "a"))])

    def test_the_box_of_a_refused_pocket(self):
        gone, name = low(9), low(1, "a")
        rows = [record("low", "a", 1, 1, None, ("pocket", gone, 0, "top", "p"), mark("low", "a", 1)),
                record("top", "a", 1, 2, mark("low", "a", 1), ("insert", name, 0, "line", "in"), mark("top", "a", 1)),
                record("low", "a", 2, 2, None, ("change", name, "x")),
                record("low", "a", 3, 3, None, ("pocket", (), 0, "low", ""), mark("low", "a", 2))]
        engine, answers = played_records(LEVELS, rows)
        self.assertEqual(answers, {
            mark("low", "a", 1): ("refused", "name", gone), mark("low", "a", 2): ("refused", "name", name),
            mark("low", "a", 3): ("refused", "above", "low"), mark("top", "a", 1): ("told", (mark("top", "a", 1),))})
        self.assertEqual(engine.view("top").attic(), ((name, "top", (((mark("top", "a", 1),), "line", "in", None, ()),)),))
        self.assertEqual(engine.log("low"), [(("box", "top"), name)])

    def test_the_box_of_a_refused_pocket_without_a_source(self):
        rows = [record("low", "", 1, 1, None, ("pocket", (), 7, "top", ""), mark("low", "", 1))]
        engine, answers = played_records(LEVELS, rows)
        self.assertEqual(answers, {mark("low", "", 1): ("refused", "place", 7)})
        self.assertEqual(engine.log("low"), [(("box", "top"), low(1))])

    def test_limits(self):
        rows = [record("low", "a", number, number, None, LINE, mark("low", "a", number)) for number in (1, 2, 3)]
        engine, answers = played_records(LEVELS, rows, limit=2)
        self.assertEqual([answer[0] for answer in answers.values()], ["told", "told", "refused"])
        self.assertEqual([engine.limit, engine.room("low")], [2, 0])

    def test_records_given_twice_are_done_once(self):
        rows = [record("low", "a", 1, 1, None, LINE, mark("low", "a", 1))] * 3
        engine, answers = played_records(LEVELS, rows)
        self.assertEqual([len(answers), engine.clock("low"), len(rows)], [1, 1, 3])

    def test_other_deeds(self):
        rows = [record("low", "a", 1, 1, None, LINE, mark("low", "a", 1)), record("low", "a", 2, 2, None, ("undo",)),
                record("low", "a", 3, 3, None, ("no deed",))]
        engine, answers = played_records(LEVELS, rows)
        self.assertEqual(list(answers.values()), [("told", low(1, "a")), ("told", "insert"), ("refused", "deed", ("no deed",))])


if __name__ == "__main__":
    unittest.main()
