"""Tests of journals and of what is recovered from them ([22], [4] (g))."""

import itertools
import unittest

from busy import ORDERS, Busy, busy_calls
from helpers import diamond, high, low, seen_of, told, two_levels
from maskededits.engine import Engine
from maskededits.errors import BadRecords, InvalidLevel, InvalidNumber
from maskededits.journals import Journals
from maskededits.levels import Levels
from maskededits.moments import Past
from maskededits.records import Record, records_in_order
from maskededits.replicas import Copy, Home, base_of

LINE = ("insert", (), 0, "line", "")
NO_LEVELS = [None, "", "none", 0, ["low"], ("low",), {}, True]
NO_NUMBERS = [-1, None, True, False, "1", 1.0, [1], (), -10 ** 20]


def records_of(journals, level=None):
    levels = journals.levels.names() if level is None else [level]
    return [record for each in levels for record in journals.journal(each)]


def small():
    """Returns an engine in which low and high have worked by turns."""
    engine = two_levels()
    told(engine, "low", ("pocket", (), 0, "high", "p"))
    told(engine, "high", ("insert", low(1), 0, "line", "x"))
    told(engine, "low", ("copy", low(1), (), 1), ("script", 'insert(node("/"), 0, "line", "s");'))
    told(engine, "high", ("change", high(1), "y"), ("undo",))
    return engine


def standing_slowly(levels, entries, lengths):
    """Returns the numbers of records that stand, asking for each record what the document says."""
    kept, written = [], {level: 0 for level in levels.names()}
    for level, *_ in entries:
        written[level] += 1
        kept.append((level, written[level]))
    cut = {level: min(lengths.get(level, 0), written[level]) for level in written}

    def stands(at):
        level, number = kept[at]
        if number > cut[level]:
            return False
        ahead = [each for each in range(at) if kept[each][0] == level][-1:]
        lower = [each for each in range(at) if levels.above(level, kept[each][0])]
        return all(stands(each) for each in ahead + lower)

    return {level: sum(1 for at, each in enumerate(kept) if each[0] == level and stands(at)) for level in written}


class WritingTests(unittest.TestCase):
    def test_empty_journals(self):
        for journals in (Journals(Levels(["low", "high"])), Journals.of(two_levels())):
            self.assertEqual([len(journals), records_of(journals), journals.standing()], [0, [], {"low": 0, "high": 0}])
            engine, answers = journals.recovered()
            self.assertEqual([answers, engine.limit, engine.view("high").tree()], [{}, 40, ()])

    def test_records_have_their_fields(self):
        journals = Journals.of(small())
        rows = [(record.mark, record.stamp, record.after, record.act, record.first) for record in journals.journal("low")]
        self.assertEqual(rows, [
            (("low", "", 1), 1, None, ("pocket", (), 0, "high", "p"), ("low", "", 1)),
            (("low", "", 2), 2, None, ("copy", low(1), (), 1), ("low", "", 2)),
            (("low", "", 3), 3, None, ("script", 'insert(node("/"), 0, "line", "s");'), None)])
        rows = [(record.mark, record.stamp, record.after, record.act, record.first) for record in journals.journal("high")]
        self.assertEqual(rows, [
            (("high", "", 1), 2, ("low", "", 1), ("insert", low(1), 0, "line", "x"), ("high", "", 1)),
            (("high", "", 2), 4, ("low", "", 3), ("change", high(1), "y"), None),
            (("high", "", 3), 5, ("low", "", 3), ("undo",), None)])
        self.assertTrue(all(isinstance(record, Record) for record in records_of(journals)))
        self.assertEqual([len(journals), journals.standing()], [6, {"low": 3, "high": 3}])

    def test_first_is_told_by_all_deeds_that_make_nodes(self):
        engine = two_levels()
        deeds = [LINE, ("pocket", (), 0, "high", ""), ("copy", low(1), (), 0), ("box", "high"), ("typed", ("a", "", (("b", "", ()),)), (), 0),
                 ("change", low(1), "x"), ("move", low(1), (), 0), ("delete", low(1)), ("undo",), ("redo",), ("script", "")]
        told(engine, "low", *deeds)
        firsts = [record.first and record.first[2] for record in Journals.of(engine).journal("low")]
        self.assertEqual(firsts, [1, 2, 3, 4, 5, None, None, None, None, None, None])

    def test_stamps_and_afters_are_those_of_records(self):
        for seed in range(40):
            levels = ORDERS[seed % len(ORDERS)]
            engine = busy_calls(seed, levels, 40)[1]
            journals, written = Journals.of(engine), []
            found = {level: list(journals.journal(level)) for level in levels.names()}
            for level, deed, value in engine.entries:
                record = found[level].pop(0)
                downs = [each for each in written if levels.leq(each.mark[0], level)]
                lower = records_in_order(levels, [each for each in downs if each.mark[0] != level])
                self.assertEqual(record.stamp, 1 + max([each.stamp for each in downs], default=0))
                self.assertEqual(record.after, lower[-1].mark if lower else None)
                written.append(record)
            self.assertEqual(sorted(record.mark for record in written), sorted(record.mark for record in records_of(journals)))
            # The order of records changes deeds alone that come from levels that cannot be compared.
            for one, other in itertools.combinations(written, 2):
                if levels.leq(one.mark[0], other.mark[0]):
                    order = records_in_order(levels, written)
                    self.assertLess(order.index(one), order.index(other))

    def test_journals_written_one_by_one_are_those_of_the_engine(self):
        engine = small()
        journals, all_at_once = Journals(engine.levels), Journals(engine.levels)
        for level, deed, value in engine.entries:
            self.assertIsNone(journals.write(level, deed, value))
        self.assertIsNone(all_at_once.write_all([entry for entry in engine.entries]))
        for each in (journals, all_at_once):
            self.assertEqual(records_of(each), records_of(Journals.of(engine)))
            self.assertEqual(len(each), 6)

    def test_write_with_levels_that_are_none(self):
        journals = Journals.of(small())
        for level in NO_LEVELS:
            with self.assertRaises(InvalidLevel) as caught:
                journals.write(level, LINE, low(9))
            self.assertIs(caught.exception.value, level)
        self.assertEqual(len(journals), 6)

    def test_write_all_with_levels_that_are_none(self):
        journals = Journals.of(small())
        for level in NO_LEVELS:
            with self.assertRaises(InvalidLevel) as caught:
                journals.write_all([("low", LINE, low(9)), (level, LINE, low(9)), ("nothing", LINE, low(9))])
            self.assertIs(caught.exception.value, level)
        self.assertEqual([len(journals), len(records_of(journals))], [6, 6])

    def test_write_behind_records_that_do_not_stand(self):
        broken = Journals.of(small()).cut({"low": 2, "high": 3})
        for level in ("low", "high"):
            for write in (lambda: broken.write(level, LINE, low(9)), lambda: broken.write_all([(level, LINE, low(9))])):
                with self.assertRaises(BadRecords) as caught:
                    write()
                self.assertEqual(caught.exception.value, level)
        self.assertEqual([len(broken), broken.standing()], [5, {"low": 2, "high": 1}])
        with self.assertRaises(InvalidLevel):
            broken.write("none", LINE, low(9))
        with self.assertRaises(InvalidLevel):
            broken.write_all([("low", LINE, low(9)), ("none", LINE, low(9))])
        broken.write_all([])

    def test_any_level_may_be_the_one_that_does_not_stand(self):
        engine = diamond()
        told(engine, "low", ("box", "east"), ("box", "west"))
        told(engine, "east", ("insert", low(1), 0, "line", ""))
        told(engine, "west", ("insert", low(2), 0, "line", ""))
        broken = Journals.of(engine).cut({"low": 1, "east": 1})
        for level in engine.levels.names():
            with self.assertRaises(BadRecords) as caught:
                broken.write(level, ("script", ""), ())
            self.assertEqual(caught.exception.value, level)

    def test_write_behind_records_that_stand(self):
        engine = small()
        for lengths in ({"low": 3, "high": 1}, {"low": 1}, {"low": 1, "high": 1}, {}):
            journals = Journals.of(engine).cut(lengths)
            again, _ = journals.recovered()
            value = told(again, "low", LINE)[0]
            journals.write("low", LINE, value)
            self.assertEqual(records_of(journals), records_of(Journals.of(again)))
            self.assertEqual(records_of(journals, "low")[-1].mark, ("low", "", lengths.get("low", 0) + 1))

    def test_journal_of_a_level(self):
        journals = Journals.of(small())
        for level in NO_LEVELS:
            rows = journals.journal(level)
            with self.assertRaises(InvalidLevel) as caught:
                next(rows)
            self.assertIs(caught.exception.value, level)

    def test_what_is_returned_is_new(self):
        journals = Journals.of(small())
        journals.standing().clear()
        journals.recovered()[1].clear()
        self.assertEqual([journals.standing(), len(journals.recovered()[1])], [{"low": 3, "high": 3}, 6])
        self.assertIsNot(journals.recovered()[0], journals.recovered()[0])


class CutTests(unittest.TestCase):
    def test_first_records_alone(self):
        journals = Journals.of(small())
        for one, other in itertools.product(range(6), range(6)):
            cut = journals.cut({"low": one, "high": other})
            self.assertEqual(records_of(cut, "low"), records_of(journals, "low")[:one])
            self.assertEqual(records_of(cut, "high"), records_of(journals, "high")[:other])
            self.assertEqual(len(cut), min(one, 3) + min(other, 3))
        self.assertEqual([len(journals), journals.limit], [6, 40])

    def test_levels_that_lack_and_keys_that_are_none(self):
        journals = Journals.of(small())
        for lengths in ({"high": 2, "low": 10 ** 30}, {"low": 3, "high": 2, "none": 5, None: 1, ("low",): 9, 0: 4},
                        {"none": -1, "high": 2, "low": 3, 7: None}):
            self.assertEqual(records_of(journals.cut(lengths)), records_of(journals, "low") + records_of(journals, "high")[:2])
        self.assertEqual(records_of(journals.cut({"low": 1})), records_of(journals, "low")[:1])
        self.assertEqual(len(journals.cut({})), 0)

    def test_values_that_are_no_numbers(self):
        journals = Journals.of(small())
        for value in NO_NUMBERS:
            for lengths in ({"low": value}, {"high": value, "low": 1}):
                with self.assertRaises(InvalidNumber) as caught:
                    journals.cut(lengths)
                self.assertIs(caught.exception.value, value)
        self.assertEqual(len(journals), 6)

    def test_a_cut_of_a_cut(self):
        journals = Journals.of(small())
        cut = journals.cut({"low": 2, "high": 3}).cut({"low": 3, "high": 2})
        self.assertEqual(records_of(cut), records_of(journals.cut({"low": 2, "high": 2})))
        self.assertEqual(cut.standing(), {"low": 2, "high": 1})
        self.assertEqual(journals.cut({"low": 2, "high": 3}).cut({"low": 2, "high": 1}).standing(), {"low": 2, "high": 1})

    def test_standing_after_every_cut_of_small_histories(self):
        for seed in range(14):
            levels = ORDERS[seed % len(ORDERS)]
            engine = busy_calls(seed, levels, 14)[1]
            journals, names = Journals.of(engine), levels.names()
            logs = [len(engine.log(level)) for level in names]
            for lengths in itertools.product(*[range(0, many + 1, 1 + many // 3) for many in logs]):
                cut = dict(zip(names, lengths))
                self.assertEqual(journals.cut(cut).standing(), standing_slowly(levels, engine.entries, cut), (seed, cut))

    def test_the_limit_stays(self):
        journals = Journals.of(two_levels(limit=7))
        self.assertEqual([journals.limit, journals.cut({}).limit, journals.recovered()[0].limit], [7, 7, 7])
        self.assertEqual(Journals(Levels(["low"]), limit=3).recovered()[0].limit, 3)


class RecoveredTests(unittest.TestCase):
    def same(self, one, other, level):
        self.assertEqual(seen_of(one, level), seen_of(other, level))

    def test_an_uncut_journal_brings_all_back(self):
        for seed in range(30):
            levels = ORDERS[seed % len(ORDERS)]
            engine = busy_calls(seed, levels, 40, 12)[1]
            again, answers = Journals.of(engine).recovered()
            for level in levels.names():
                self.same(again, engine, level)
                rows = [answers[record.mark] for record in Journals.of(engine).journal(level)]
                self.assertEqual(rows, [("told", value) for deed, value in engine.log(level)])

    def test_after_a_cut_each_level_sees_what_hangs_on_journals_below_alone(self):
        for seed in range(30):
            levels = ORDERS[seed % len(ORDERS)]
            engine = busy_calls(100 + seed, levels, 30)[1]
            journals, chance = Journals.of(engine), Busy(seed, engine).chance
            lengths = {level: chance.randint(0, len(engine.log(level)) + 1) for level in levels.names()}
            cut = journals.cut(lengths)
            again, answers = cut.recovered()
            counts = cut.standing()
            self.assertEqual(sorted(answers), sorted((level, "", at + 1) for level in counts for at in range(counts[level])))
            for level in levels.names():
                self.assertEqual(again.log(level), engine.log(level)[:counts[level]])
                below = {each: lengths[each] for each in levels.downs(level)}
                alone, _ = journals.cut(below).recovered()
                self.same(again, alone, level)
                done, seen = Engine(levels), {each: 0 for each in levels.names()}
                for each, deed, value in engine.entries:
                    seen[each] += 1
                    if levels.leq(each, level) and seen[each] <= counts[each]:
                        self.assertEqual(done.perform(each, deed), ("told", value))
                self.same(again, done, level)

    def test_the_order_differs_between_levels_alone_that_cannot_be_compared(self):
        for seed in range(20):
            levels = ORDERS[seed % len(ORDERS)]
            engine = busy_calls(200 + seed, levels, 30)[1]
            lengths = {level: len(engine.log(level)) // 2 + 1 for level in levels.names()}
            again = Journals.of(engine).cut(lengths).recovered()[0]
            for level in levels.names():
                needs = {row[:2]: row[2] for row in Past(engine, level).records(Past(engine, level).start, Past(engine, level).now)}
                for row in Past(again, level).records(Past(again, level).start, Past(again, level).now):
                    self.assertEqual(needs[row[:2]], row[2])

    def test_going_on_from_a_recovered_engine(self):
        engine = small()
        again, _ = Journals.of(engine).cut({"low": 2, "high": 1}).recovered()
        self.assertEqual(told(again, "low", LINE, ("undo",), ("undo",)), [low(3), "insert", "copy"])
        self.assertEqual(told(again, "high", ("change", high(1), "z"), ("undo",), ("undo",), ("redo",)), ["x", "change", "insert", "insert"])
        for level in ("low", "high"):
            self.assertEqual(seen_of(Journals.of(again).recovered()[0], level), seen_of(again, level))

    def test_a_deed_that_is_refused_is_passed_over(self):
        journals = Journals(Levels(["low", "high"]), limit=2)
        for deed, value in [(LINE, low(1)), (("delete", low(7)), 1), (("pocket", (), 5, "high", ""), low(2)), (LINE, low(2)), (LINE, low(3))]:
            journals.write("low", deed, value)
        engine, answers = journals.recovered()
        self.assertEqual([answers["low", "", at] for at in range(1, 6)], [
            ("told", low(1)), ("refused", "name", low(7)), ("refused", "place", 5), ("told", low(2)), ("refused", "full", 2)])
        self.assertEqual([engine.clock("low"), engine.view("high").attic()], [2, ()])

    def test_what_a_home_has_taken(self):
        engine = small()
        copies = [Copy(engine.levels, base_of(engine, level), level, source) for level, source in [("low", "pad"), ("high", "tab")]]
        copies[0].perform(("delete", low(1)))
        copies[0].perform(("pocket", (), 0, "high", "q"))
        copies[1].merge(copies[0])
        copies[1].perform(("insert", (("low", "pad", 1),), 0, "line", "z"))
        home = Home(engine)
        home.take(copies[0])
        home.take(copies[1])
        told(engine, "low", LINE)
        journals = Journals.of(engine)
        self.assertEqual({record.mark[1] for record in records_of(journals)}, {""})
        self.assertEqual([record.first for record in journals.journal("low")][-3:], [None, ("low", "pad", 1), ("low", "", 4)])
        again, _ = journals.recovered()
        for level in ("low", "high"):
            self.same(again, engine, level)
        later = Home(again, taken=home.marks())
        self.assertEqual([later.take(copies[0]), later.take(copies[1])], [[], []])

    def test_the_box_of_a_refused_pocket_comes_again(self):
        engine = small()
        copy = Copy(engine.levels, base_of(engine, "low"), "low", "pad")
        copy.perform(("insert", (), 0, "list", ""))
        copy.perform(("pocket", (("low", "pad", 1),), 0, "high", ""))
        told(engine, "low", *[LINE] * engine.room("low"))
        home = Home(engine)
        self.assertEqual([answer[1] for mark, answer in home.take(copy)], ["full", "name"])
        self.assertEqual(list(engine.view("high").loose), [(("low", "pad", 2),)])
        again, answers = Journals.of(engine).recovered()
        for level in ("low", "high"):
            self.same(again, engine, level)

    def test_long_histories(self):
        engine = two_levels()
        told(engine, "low", ("pocket", (), 0, "high", "p"))
        for at in range(300):
            told(engine, "low", ("change", low(1), str(at)))
            told(engine, "high", *([("insert", low(1), 0, "line", "")] if at == 0 else [("change", high(1), str(at))]))
        journals = Journals.of(engine)
        self.assertEqual([len(journals), records_of(journals)[-1].after], [601, ("low", "", 301)])
        self.assertEqual(journals.cut({"low": 151, "high": 300}).standing(), {"low": 151, "high": 150})
        self.same(journals.recovered()[0], engine, "high")


if __name__ == "__main__":
    unittest.main()
