"""Tests of the guarantees ([4]) in random histories, and of the engine against the model."""

import unittest

from helpers import seen_of
from maskededits.engine import Engine
from maskededits.levels import Levels
from model import Deeds, Model, history

ORDERS = [
    Levels(["low", "high"]),
    Levels(["low", "east", "west", "top"], [("east", "top"), ("west", "top")]),
    Levels(["low", "mid", "high"], [("mid", "high")]),
    Levels(["a", "b", "c", "d"], [("b", "c")]),
    Levels(["one"]),
]
LIMITS = [40, 6, 3]
SCRIPTS = [
    "", 'tell size(find("pocket"));', 'for n in kids(node("/")) { tell text(n); }', "tell 1 + 1; tell;",
    'try { for n in find("line") { change(n, "z"); tell n; } } else { tell 0; }',
    'for n in find("pocket") { try { insert(n, 0, "line", inner(n)); } else { copy(n, node("/"), 0); } }',
    'for n in find("list") { delete(n); } insert(node("/"), 0, "list", written(size(find("line"))));',
    "n = 0; while n < 200 { n = n + 1; } tell n;",
    'for n in find("line") { tell holder(n); tell level(n); move(n, holder(n), 0); }',
]


def cases(many, length):
    """Yields levels, a limit and a random history, scripts included."""
    for seed in range(many):
        levels, limit = ORDERS[seed % len(ORDERS)], LIMITS[seed % len(LIMITS)]
        calls, _ = history(seed, levels, length, limit)
        chance = Deeds(seed, levels).random
        row = []
        for level, deed, _ in calls:
            row.append((level, deed))
            if chance.random() < 0.15:
                row.append((chance.choice(levels.names()), ("script", chance.choice(SCRIPTS))))
        yield seed, levels, limit, row


def played(levels, limit, calls):
    """Returns a new engine behind calls, and the answers."""
    engine = Engine(levels, limit=limit)
    return engine, [engine.perform(level, deed) for level, deed in calls]


def undone(engine, level):
    """Undoes a deed of a level and tells whether there was one."""
    return engine.perform(level, ("undo",))[0] == "told"


class ModelTests(unittest.TestCase):
    def test_the_engine_answers_as_the_model(self):
        for seed in range(100):
            levels, limit = ORDERS[seed % len(ORDERS)], LIMITS[seed % len(LIMITS)]
            model, deeds, engine = Model(levels, limit), Deeds(seed, levels), Engine(levels, limit=limit)
            for index in range(50):
                level = deeds.random.choice(levels.names())
                deed = deeds.deed(model, level)
                self.assertEqual(engine.perform(level, deed), model.perform(level, deed), (seed, index, deed))
            for level in levels.names():
                view = engine.view(level)
                self.assertEqual(view.tree(), model.branches(model.root, level))
                self.assertEqual(view.attic(), model.attic(level))
                self.assertEqual(list(view.walk()), model.walk(level))
                self.assertEqual(engine.room(level), limit - model.used(level))
                self.assertEqual([engine.clock(level), engine.log(level)], [model.clock(level), model.logs[level]])

    def test_views_behind_each_call(self):
        for seed in range(20):
            levels = ORDERS[seed % len(ORDERS)]
            model, deeds, engine = Model(levels), Deeds(1000 + seed, levels), Engine(levels)
            for _ in range(40):
                level = deeds.random.choice(levels.names())
                deed = deeds.deed(model, level)
                model.perform(level, deed)
                engine.perform(level, deed)
                for each in levels.names():
                    self.assertEqual(engine.view(each).tree(), model.branches(model.root, each))
                    self.assertEqual(engine.view(each).attic(), model.attic(each))


class TellingTests(unittest.TestCase):
    def test_a_what_a_level_is_told_comes_from_levels_below_alone(self):
        for seed, levels, limit, calls in cases(60, 40):
            whole, answers = played(levels, limit, calls)
            for level in levels.names():
                kept = [index for index, call in enumerate(calls) if levels.leq(call[0], level)]
                alone, told = played(levels, limit, [calls[index] for index in kept])
                self.assertEqual([answers[index] for index in kept], told, (seed, level))
                for each in levels.downs(level):
                    self.assertEqual(seen_of(whole, each), seen_of(alone, each), (seed, level, each))

    def test_b_a_deed_changes_nothing_for_levels_that_are_not_above_it(self):
        for seed, levels, limit, calls in cases(25, 25):
            engine = Engine(levels, limit=limit)
            for level, deed in calls:
                others = [each for each in levels.names() if not levels.leq(level, each)]
                before = [seen_of(engine, each) for each in others]
                engine.perform(level, deed)
                self.assertEqual([seen_of(engine, each) for each in others], before, (seed, level, deed))

    def test_b_a_deed_of_a_lower_level_leaves_the_nodes_of_a_level_as_they_are(self):
        for seed, levels, limit, calls in cases(25, 25):
            engine = Engine(levels, limit=limit)
            for level, deed in calls:
                above = [each for each in levels.names() if levels.above(each, level)]
                before = [(each, engine.view(each)) for each in above]
                engine.perform(level, deed)
                for each, view in before:
                    self.compare(levels, each, view, engine.view(each))

    def compare(self, levels, level, before, behind):
        for name in before.walk():
            if before[name][2] == level:
                self.assertEqual(behind[name], before[name])
                self.assertEqual(behind.holds(name), before.holds(name))
        for name in behind.walk():
            if behind[name][2] == level and name not in before:
                self.assertNotEqual(name[-1][0], level)
                self.assertEqual(behind[name][:2] + behind[name][3:4], before[name[:-1]][:2] + before[name[:-1]][3:4])

    def test_refused_deeds_change_nothing(self):
        for seed, levels, limit, calls in cases(20, 25):
            engine = Engine(levels, limit=limit)
            for level, deed in calls:
                before = [seen_of(engine, each) for each in levels.names()]
                if engine.perform(level, deed)[0] == "refused":
                    self.assertEqual([seen_of(engine, each) for each in levels.names()], before, (seed, deed))


class UndoTests(unittest.TestCase):
    def own(self, engine, level):
        """Returns what is there of a level, but for what lower levels have copied."""
        view = engine.view(level)
        holders = [name for name in [(), *view.loose, *view.walk()] if view.holds(name) is not None]
        rows = {}
        for holder in holders:
            held = view.holds(holder)
            if held and view[held[0]][2] == level and (holder == () or all(mark[0] == level for mark in holder[1:])):
                rows[holder] = [(name, view[name][:4]) for name in held]
        return rows

    def test_c_undo_and_redo_lead_to_the_same_whatever_others_do(self):
        for seed, levels, limit, calls in cases(40, 30):
            engine, _ = played(levels, limit, calls)
            level = levels.names()[seed % len(levels)]
            pictures = [self.own(engine, level)]
            while undone(engine, level):
                pictures.append(self.own(engine, level))
                if len(pictures) % 3 == 0:
                    for other in levels.names():
                        if not levels.leq(level, other):
                            engine.perform(other, ("undo",))
            for index in range(len(pictures) - 2, -1, -1):
                self.assertEqual(engine.perform(level, ("redo",))[0], "told")
                self.assertEqual(self.own(engine, level), pictures[index], (seed, index))

    def test_c_nodes_are_taken_away_by_their_own_level_alone(self):
        for seed, levels, limit, calls in cases(25, 30):
            engine = Engine(levels, limit=limit)
            for level, deed in calls:
                before = {each: engine.view(each) for each in levels.names()}
                engine.perform(level, deed)
                for each in levels.names():
                    if each != level:
                        for name in before[each].walk():
                            if before[each][name][2] == each:
                                self.assertIn(name, engine.view(each), (seed, level, deed))


class PlaceTests(unittest.TestCase):
    def test_d_deeds_of_levels_that_cannot_be_compared_change_places(self):
        changed = 0
        for seed, levels, limit, calls in cases(60, 30):
            whole, answers = played(levels, limit, calls)
            row = list(range(len(calls)))
            for _ in range(2):
                for at in range(len(row) - 1):
                    one, other = calls[row[at]][0], calls[row[at + 1]][0]
                    if not levels.leq(one, other) and not levels.leq(other, one):
                        row[at], row[at + 1] = row[at + 1], row[at]
                        changed += 1
            other, told = played(levels, limit, [calls[index] for index in row])
            self.assertEqual([answers[index] for index in row], told, seed)
            for level in levels.names():
                self.assertEqual(seen_of(whole, level), seen_of(other, level), (seed, level))
        self.assertGreater(changed, 100)


class ScriptTests(unittest.TestCase):
    def test_h_a_script_is_done_whole_or_not_at_all(self):
        done = 0
        for seed, levels, limit, calls in cases(30, 20):
            engine, _ = played(levels, limit, calls)
            for level in levels.names():
                for text in SCRIPTS:
                    before = [seen_of(engine, each) for each in levels.names()]
                    answer = engine.perform(level, ("script", text))
                    if answer[0] == "refused":
                        self.assertEqual([seen_of(engine, each) for each in levels.names()], before)
                        continue
                    done += 1
                    self.assertEqual(engine.perform(level, ("undo",)), ("told", "script"))
                    for each, told in zip(levels.names(), before):
                        if each == level:
                            self.assertEqual(engine.view(each).tree(), told[1])
                    engine.perform(level, ("redo",))
        self.assertGreater(done, 50)

    def test_h_what_a_script_tells_comes_from_view_room_and_numbers_alone(self):
        for seed, levels, limit, calls in cases(20, 25):
            engine, _ = played(levels, limit, calls)
            for level in levels.names():
                kept = [call for call in calls if levels.leq(call[0], level)]
                alone, _ = played(levels, limit, kept)
                for text in SCRIPTS:
                    deed = ("script", text)
                    self.assertEqual(engine.twin().perform(level, deed), alone.twin().perform(level, deed))


if __name__ == "__main__":
    unittest.main()
