"""Tests of moments ([12]) and of the past ([13])."""

import itertools
import unittest

from helpers import diamond, high, low, told, two_levels
from maskededits.engine import Engine
from maskededits.errors import InvalidLevel, InvalidMoment, InvalidNumber, NotSeen
from maskededits.levels import Levels
from maskededits.moments import Moment, Past
from maskededits.queries import Difference, compare_views
from model import Deeds, history

NO_MOMENTS = [None, 0, (), "low", {}, {"low": 1}, [("low", 1)], Moment, diamond()]
ORDERS = [
    Levels(["low", "high"]),
    Levels(["low", "east", "west", "top"], [("east", "top"), ("west", "top")]),
    Levels(["low", "mid", "high"], [("mid", "high")]),
    Levels(["a", "b", "c", "d", "e"], [("b", "d"), ("c", "d"), ("d", "e")]),
    Levels(["one"]),
]
SCRIPT = 'for n in find("line") { change(n, "z"); } insert(node("/"), 0, "line", "s"); insert(node("/"), 0, "item", "s");'


class MomentTests(unittest.TestCase):
    def test_numbers(self):
        moment = Moment({"low": 2, "high": 0, "mid": 10 ** 30})
        self.assertEqual([moment["low"], moment["high"], moment["mid"], moment["none"]], [2, 0, 10 ** 30, 0])
        for thing in ["", "Low", "ninesigns", None, 0, 1, True, (), ("low",), [], ["low"], {}, Moment({}), b"low"]:
            self.assertEqual(moment[thing], 0)
        self.assertEqual(moment.by_level(), {"low": 2, "mid": 10 ** 30})
        self.assertEqual(moment.deeds, 10 ** 30 + 2)
        self.assertEqual([Moment({}).deeds, Moment({}).by_level(), Moment({"low": 0}).by_level()], [0, {}, {}])

    def test_values_that_are_no_counts(self):
        for thing in [None, 0, 1, "", "low", (), [], [("low", 1)], (("low", 1),), {"low": -1}, {"low": True},
                      {"low": False}, {"low": "1"}, {"low": None}, {"": 1}, {"Low": 1}, {"ninesigns": 1}, {1: 1},
                      {None: 0}, {("low",): 1}, {"low": 1, "high": -1}, {"low": 1, 2: 2}, {"low": [1]}, Moment({})]:
            with self.assertRaises(InvalidMoment) as caught:
                Moment(thing)
            self.assertIs(caught.exception.value, thing)

    def test_a_dict_that_is_changed_later(self):
        counts = {"low": 1}
        moment = Moment(counts)
        counts["low"] = 7
        counts["high"] = 1
        self.assertEqual([moment["low"], moment["high"], moment.deeds], [1, 0, 1])
        moment.by_level()["low"] = 9
        self.assertEqual(moment.by_level(), {"low": 1})

    def test_smaller_and_greater_numbers(self):
        one, other = Moment({"low": 2, "high": 1}), Moment({"low": 1, "mid": 3, "top": 0})
        self.assertEqual((one & other).by_level(), {"low": 1})
        self.assertEqual((other & one).by_level(), {"low": 1})
        self.assertEqual((one | other).by_level(), {"low": 2, "high": 1, "mid": 3})
        self.assertEqual((other | one).by_level(), {"low": 2, "high": 1, "mid": 3})
        self.assertEqual([one.by_level(), other.by_level()], [{"low": 2, "high": 1}, {"low": 1, "mid": 3}])

    def test_is_within(self):
        one = Moment({"low": 2, "high": 1})
        for counts, told_of in [({"low": 2, "high": 1}, (True, True)), ({"low": 3, "high": 1}, (True, False)),
                                ({"low": 2}, (False, True)), ({"low": 3}, (False, False)), ({}, (False, True)),
                                ({"low": 2, "high": 1, "mid": 1}, (True, False)), ({"low": 2, "high": 1, "mid": 0},
                                                                                  (True, True))]:
            other = Moment(counts)
            self.assertEqual((one.is_within(other), other.is_within(one)), told_of, counts)
            self.assertIsInstance(one.is_within(other), bool)

    def test_what_is_no_moment(self):
        for thing in NO_MOMENTS:
            for act in (lambda one, other: one & other, lambda one, other: one | other,
                        lambda one, other: one.is_within(other)):
                with self.assertRaises(InvalidMoment) as caught:
                    act(Moment({"low": 1}), thing)
                self.assertIs(caught.exception.value, thing)

    def test_equality(self):
        self.assertEqual(Moment({"low": 1}), Moment({"low": 1, "high": 0}))
        self.assertFalse(Moment({"low": 1}) != Moment({"low": 1}))
        for counts in [{}, {"low": 2}, {"high": 1}, {"low": 1, "high": 1}]:
            self.assertNotEqual(Moment({"low": 1}), Moment(counts))
        for thing in [{"low": 1}, None, 1, ("low", 1), "low", [("low", 1)]]:
            self.assertFalse(Moment({"low": 1}) == thing)


def record_list(calls, levels, level):
    """Returns the records of levels <= a level, as [12] says it, from the accepted calls in order."""
    counts, found = {each: 0 for each in levels.names()}, []
    for each, deed in calls:
        if levels.leq(each, level):
            needs = {lower: counts[lower] for lower in levels.downs(level) if levels.above(each, lower)}
            counts[each] += 1
            found.append((each, counts[each], needs, deed))
    return found


def moments_of(calls, levels, level):
    """Returns all moments of a level, as [13] says it, as dicts."""
    records = {(each, number): needs for each, number, needs, deed in record_list(calls, levels, level)}
    downs = levels.downs(level)
    totals = {each: max([number for one, number in records if one == each], default=0) for each in downs}
    found = []
    for numbers in itertools.product(*[range(totals[each] + 1) for each in downs]):
        counts = dict(zip(downs, numbers))
        fine = True
        for lower, upper in itertools.permutations(downs, 2):
            if levels.above(upper, lower):
                needs, behind = records.get((upper, counts[upper])), records.get((upper, counts[upper] + 1))
                fine = fine and (needs is None or counts[lower] >= needs[lower])
                fine = fine and (behind is None or counts[lower] <= behind[lower])
        if fine:
            found.append(counts)
    return found


def accepted(seed, levels, many, limit=40):
    """Returns an engine behind a random history, scripts included, its accepted calls, and for each level its views."""
    calls, _ = history(seed, levels, many, limit, levels.names()[1:] if seed % 3 else ())
    chance = Deeds(seed, levels).random
    engine, done = Engine(levels, limit=limit), []
    views = [views_of(engine)]
    for level, deed, _ in calls:
        for each in [deed] + ([("script", SCRIPT)] if chance.random() < 0.1 else []):
            if engine.perform(level, each)[0] == "told":
                done.append((level, each))
                views.append(views_of(engine))
    return engine, done, views


def views_of(engine):
    return {level: engine.view(level) for level in engine.levels.names()}


def cases(many, length):
    for seed in range(many):
        levels = ORDERS[seed % len(ORDERS)]
        yield (seed, levels, *accepted(seed, levels, length, [40, 5][seed % 2]))


class HistoryTests(unittest.TestCase):
    def test_which_numbers_are_moments(self):
        for seed, levels, engine, done, views in cases(20, 14):
            for level in levels.names():
                past, downs = Past(engine, level), levels.downs(level)
                found = moments_of(done, levels, level)
                for numbers in itertools.product(*[range(past.now[each] + 2) for each in downs]):
                    counts = dict(zip(downs, numbers))
                    self.assertEqual(Moment(counts) in past, counts in found, (seed, level, counts))
                for other in levels.names():
                    if other not in downs:
                        self.assertNotIn(Moment({other: 1}), past)
                        self.assertIn(Moment({other: 0}), past)
                self.assertNotIn(Moment({"none": 1}), past)

    def test_smaller_and_greater_numbers_of_moments_are_moments(self):
        for seed, levels, engine, done, views in cases(10, 12):
            for level in levels.names():
                past = Past(engine, level)
                found = [Moment(counts) for counts in moments_of(done, levels, level)]
                for one, other in itertools.islice(itertools.product(found, found), 2000):
                    self.assertTrue((one & other) in past and (one | other) in past)

    def test_the_views_that_were_the_last_ones(self):
        for seed, levels, engine, done, views in cases(25, 25):
            for level in levels.names():
                past, counts = Past(engine, level), {}
                self.assertEqual(past(past.start), views[0][level])
                for index, (each, _) in enumerate(done):
                    if levels.leq(each, level):
                        counts[each] = counts.get(each, 0) + 1
                    if index % 3 == 0 or index == len(done) - 1:
                        self.assertEqual(past(Moment(counts)), views[index + 1][level], (seed, level))
                self.assertEqual(past.now, Moment(counts))
                self.assertEqual(past(past.now), engine.view(level))

    def test_the_view_at_each_moment(self):
        for seed, levels, engine, done, views in cases(12, 12):
            for level in levels.names():
                past = Past(engine, level)
                for counts in moments_of(done, levels, level)[:60]:
                    alone, left = Engine(levels, limit=engine.limit), dict(counts)
                    for each, deed in done:
                        if left.get(each, 0) > 0:
                            left[each] -= 1
                            alone.perform(each, deed)
                    self.assertEqual(past(Moment(counts)), alone.view(level), (seed, level, counts))

    def test_records_between_two_moments(self):
        for seed, levels, engine, done, views in cases(60, 18):
            for level in levels.names():
                past = Past(engine, level)
                found = [Moment(counts) for counts in moments_of(done, levels, level)]
                every = record_list(done, levels, level)
                for one, other in itertools.islice(itertools.product(found, found), 0, 4000, 37):
                    if one.is_within(other):
                        self.check_records(past, levels, one, other, every)
                self.check_records(past, levels, past.start, past.now, every)

    def check_records(self, past, levels, one, other, every):
        at, rows = one, list(past.records(one, other))
        for level, number, needs, deed in rows:
            coming = [each for each in levels.names() if at[each] < other[each]
                      and (at | Moment({each: at[each] + 1})) in past]
            self.assertEqual((level, number), (coming[0], at[level] + 1))
            self.assertIn((level, number, needs, deed), every)
            at = at | Moment({level: number})
        self.assertEqual(at, other)

    def test_cuts(self):
        for seed, levels, engine, done, views in cases(15, 20):
            for level in levels.names():
                past = Past(engine, level)
                cuts, at = list(past.cuts()), past.start
                self.assertEqual(cuts[0], past.start)
                for (each, number, needs, deed), cut in zip(list(past.records(past.start, past.now)), cuts[1:]):
                    at = at | Moment({each: number})
                    self.assertEqual(at, cut)
                self.assertEqual([cuts[-1], len(cuts)], [past.now, past.now.deeds + 1])

    def test_first_with_and_last_without(self):
        for seed, levels, engine, done, views in cases(60, 16):
            for level in levels.names():
                past = Past(engine, level)
                found = [Moment(counts) for counts in moments_of(done, levels, level)]
                for each in levels.downs(level):
                    for number in range(1, past.now[each] + 1):
                        first, last = past.first_with(each, number), past.last_without(each, number)
                        self.assertTrue(first in found and last in found)
                        self.assertTrue(first[each] >= number > last[each])
                        for moment in found:
                            self.assertEqual(moment[each] >= number, first.is_within(moment), (seed, level))
                            self.assertEqual(moment[each] < number, moment.is_within(last), (seed, level))

    def test_made(self):
        for seed, levels, engine, done, views in cases(15, 20):
            for level in levels.names():
                past, again, counts, met = Past(engine, level), Engine(levels, limit=engine.limit), {}, {}
                for each, deed in done:
                    counts[each] = counts.get(each, 0) + 1
                    again.perform(each, deed)
                    for name in again.document.nodes:
                        if met.setdefault(name, (each, counts[each])) == (each, counts[each]):
                            if levels.leq(again.document.nodes[name][1], level):
                                self.assertEqual(past.made(name), past.first_with(each, counts[each]))
                            else:
                                with self.assertRaises(NotSeen):
                                    past.made(name)

    def test_later_deeds_change_nothing(self):
        for seed, levels, engine, done, views in cases(10, 20):
            for level in levels.names():
                engine = Engine(levels)
                for each, deed in done[:len(done) // 2]:
                    engine.perform(each, deed)
                past = Past(engine, level)
                before = self.told_by(past)
                for each, deed in done[len(done) // 2:]:
                    engine.perform(each, deed)
                self.assertEqual(self.told_by(past), before)

    def told_by(self, past):
        cuts = list(past.cuts())
        return [past.start, past.now, cuts, list(past.records(past.start, past.now)), [past(cut) for cut in cuts[-3:]]]

    def test_deeds_of_other_levels_are_not_told(self):
        for seed, levels, engine, done, views in cases(15, 25):
            for level in levels.names():
                alone = Engine(levels, limit=engine.limit)
                for each, deed in done:
                    if levels.leq(each, level):
                        alone.perform(each, deed)
                self.assertEqual(self.told_by(Past(engine, level)), self.told_by(Past(alone, level)), (seed, level))

    def test_changes(self):
        for seed, levels, engine, done, views in cases(10, 20):
            for level in levels.names():
                past = Past(engine, level)
                cuts = list(past.cuts())
                for one, other in [(cuts[0], cuts[-1]), (cuts[-1], cuts[0]), (cuts[-1], cuts[-1]),
                                   (cuts[len(cuts) // 2], cuts[-1])]:
                    difference = past.changes(one, other)
                    self.assertIsInstance(difference, Difference)
                    self.assertEqual(difference, compare_views(past(one), past(other)))


def meadow():
    """Returns an engine of four levels with some deeds, and its past for top."""
    engine = diamond()
    told(engine, "low", ("pocket", (), 0, "east", "e"), ("pocket", (), 0, "west", "w"))
    told(engine, "east", ("insert", low(1), 0, "item", "x"))
    told(engine, "low", ("insert", (), 0, "line", "l"))
    told(engine, "west", ("insert", low(2), 0, "item", "y"))
    told(engine, "east", ("change", (("east", "", 1),), "z"))
    return engine, Past(engine, "top")


class PastTests(unittest.TestCase):
    def test_a_small_past(self):
        engine, past = meadow()
        self.assertEqual([past.start, past.now], [Moment({}), Moment({"low": 3, "east": 2, "west": 1})])
        self.assertEqual([row[:3] for row in past.records(past.start, past.now)],
                         [("low", 1, {}), ("low", 2, {}), ("east", 1, {"low": 2}), ("low", 3, {}),
                          ("east", 2, {"low": 3}), ("west", 1, {"low": 3})])
        self.assertEqual(list(past.records(past.start, Moment({"low": 1}))), [("low", 1, {}, ("pocket", (), 0, "east", "e"))])
        self.assertEqual([moment.by_level() for moment in past.cuts()][-3:],
                         [{"low": 3, "east": 1}, {"low": 3, "east": 2}, {"low": 3, "east": 2, "west": 1}])
        self.assertEqual(past.first_with("low", 3), Moment({"low": 3, "east": 1}))
        self.assertEqual(past.last_without("low", 3), Moment({"low": 2, "east": 1}))
        self.assertEqual(past.last_without("east", 1), Moment({"low": 2}))
        self.assertEqual(past.last_without("east", 2), Moment({"low": 3, "east": 1, "west": 1}))
        self.assertIs(Moment({"low": 3, "west": 1}) in past, False)
        self.assertIs(Moment({"low": 3, "east": 1, "west": 1}) in past, True)

    def test_a_past_without_deeds(self):
        past = Past(diamond(), "top")
        self.assertEqual([past.start, past.now, list(past.cuts())], [Moment({}), Moment({}), [Moment({})]])
        self.assertEqual(list(past.records(past.start, past.now)), [])
        self.assertEqual(past(past.start), diamond().view("top"))
        self.assertFalse(past.changes(past.start, past.now))

    def test_a_deed_that_must_wait_for_one_of_a_later_level(self):
        engine = diamond()
        told(engine, "west", ("box", "top"))
        told(engine, "low", ("box", "top"))
        told(engine, "east", ("box", "top"))
        past = Past(engine, "top")
        self.assertEqual([row[0] for row in past.records(past.start, past.now)], ["west", "low", "east"])
        self.assertEqual(past.first_with("east", 1), past.now)
        self.assertEqual(past.last_without("west", 1), past.start)
        self.assertEqual([row[0] for row in Past(engine, "east").records(past.start, Moment({"low": 1, "east": 1}))],
                         ["low", "east"])

    def test_levels_that_are_none(self):
        for thing in [None, "", "none", 0, ("low",), ["low"], {}]:
            with self.assertRaises(InvalidLevel) as caught:
                Past(diamond(), thing)
            self.assertIs(caught.exception.value, thing)

    def test_values_that_are_no_moments(self):
        engine, past = meadow()
        for thing in [*NO_MOMENTS, Moment({"low": 4}), Moment({"east": 1}), Moment({"low": 3, "west": 1}),
                      Moment({"none": 1}), Moment({"low": 3, "east": 2, "west": 1, "top": 1})]:
            self.assertIs(thing in past, False)
            with self.assertRaises(InvalidMoment) as caught:
                past(thing)
            self.assertIs(caught.exception.value, thing)
            for one, other in [(thing, past.now), (past.start, thing), (thing, 5), (past.now, thing)]:
                for act in (past.changes, lambda one, other: list(past.records(one, other))):
                    with self.assertRaises(InvalidMoment) as caught:
                        act(one, other)
                    self.assertIs(caught.exception.value, thing)

    def test_moments_that_are_not_within_one_another(self):
        engine, past = meadow()
        other = Moment({"low": 1})
        with self.assertRaises(InvalidMoment) as caught:
            list(past.records(past.now, other))
        self.assertIs(caught.exception.value, other)
        self.assertEqual(past.changes(past.now, other).gone, past.changes(other, past.now).new)

    def test_records_are_checked_when_the_iteration_begins(self):
        engine, past = meadow()
        rows = past.records(None, past.now)
        with self.assertRaises(InvalidMoment):
            for row in rows:
                self.fail(row)

    def test_needs_are_new_dicts(self):
        engine, past = meadow()
        for row in past.records(past.start, past.now):
            row[2].clear()
        self.assertEqual([len(row[2]) for row in past.records(past.start, past.now)], [0, 0, 1, 0, 1, 1])
        past.now.by_level().clear()
        self.assertEqual(past.now.deeds, 6)

    def test_first_with_and_last_without_refuse(self):
        engine, _ = meadow()
        past = Past(engine, "east")
        for act in (past.first_with, past.last_without):
            for level in ["west", "top", "none", "", None, 0, ["low"], {}, ("low",)]:
                with self.assertRaises(InvalidLevel) as caught:
                    act(level, None)
                self.assertIs(caught.exception.value, level)
            for level, number in [("low", 0), ("low", 4), ("east", 3), ("low", -1), ("low", True), ("low", None),
                                  ("low", "1"), ("low", (1,)), ("low", [1]), ("low", 10 ** 20)]:
                with self.assertRaises(InvalidNumber) as caught:
                    act(level, number)
                self.assertIs(caught.exception.value, number)
        self.assertEqual(past.first_with("east", 2).by_level(), {"low": 3, "east": 2})

    def test_made_by_each_deed(self):
        engine = two_levels()
        told(engine, "low", ("insert", (), 0, "line", ""), ("box", "high"), ("pocket", (), 0, "high", ""),
             ("typed", ("list", "", (("line", "", ()), ("line", "", ()))), (), 0), ("delete", low(4)),
             ("script", 'insert(node("/"), 0, "line", ""); delete(node("low.7"));'))
        told(engine, "high", ("insert", low(3), 0, "line", ""))
        told(engine, "low", ("copy", low(3), (), 0), ("undo",), ("script", 'try { copy(node("low.3"), node("/"), 0);'
             ' tell 1 + ""; } else { tell 0; }'))
        name = (*low(3), ("low", "", 8))
        lower, upper = Past(engine, "low"), Past(engine, "high")
        made = {low(1): 1, low(2): 2, low(3): 3, low(4): 4, low(5): 4, low(6): 4, low(7): 6, name: 7}
        for each, number in made.items():
            self.assertEqual(lower.made(each), lower.first_with("low", number), each)
            self.assertEqual(upper.made(each), upper.first_with("low", number), each)
        self.assertEqual(upper.made(high(1)).by_level(), {"low": 6, "high": 1})
        self.assertEqual(upper.made((*high(1), ("low", "", 8))), upper.first_with("low", 7))
        nothing = [(), None, "low.1", low(8), low(9), (*low(3), ("low", "", 9)), (("low", "", True),), [], {}, low(1)[0]]
        for past, things in [(upper, nothing), (lower, [*nothing, high(1), (*high(1), ("low", "", 8))])]:
            for thing in things:
                with self.assertRaises(NotSeen) as caught:
                    past.made(thing)
                self.assertIs(caught.exception.value, thing)

    def test_limits_are_those_of_the_engine(self):
        engine = two_levels(limit=1)
        told(engine, "low", ("insert", (), 0, "line", ""), ("delete", low(1)), ("insert", (), 0, "line", ""))
        self.assertEqual(engine.perform("low", ("insert", (), 0, "line", "")), ("refused", "full", 1))
        past = Past(engine, "low")
        self.assertEqual([len(past(moment)) for moment in past.cuts()], [0, 1, 0, 1])


if __name__ == "__main__":
    unittest.main()
