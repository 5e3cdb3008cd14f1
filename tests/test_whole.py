"""Tests of the guarantees ([4]) over the whole program: calls, scripts, edits, releases and copies together."""

import unittest

from busy import ORDERS
from helpers import seen_of
from maskededits.checker import first_leak, first_wrong
from maskededits.journals import Journals
from maskededits.losses import first_loss
from maskededits.queries import any_node, compare_views, from_loose, from_root, grouped_by, sorted_by
from maskededits.replicas import Home
from maskededits.texts import format_view
from world import World, targets, worked

LIMITS = (40, 12, 40, 6)


def worlds(many, length, first=0):
    for seed in range(first, first + many):
        levels, limit = ORDERS[seed % len(ORDERS)], LIMITS[seed % len(LIMITS)]
        yield (seed, levels, limit, *worked(seed, levels, length, limit))


def approvals(world, actions, told):
    """Returns for each action the call typed that it has entered at a lower level, or None."""
    payloads = {answer[1]: deed for level, deed, answer in world.server.log() if deed is not None and deed and deed[0] == "typed"}
    return [entered and ("typed", entered[3], payloads[answer[1]]) for entered, answer in zip(targets(actions, told), told)]


def history_for(levels, level, actions, entered):
    """Returns pairs of an index and an action: those of levels <= a level, with approvals of others as typed deeds."""
    row = []
    for index, (action, typed) in enumerate(zip(actions, entered)):
        if levels.leq(action[1], level):
            row.append((index, action))
        elif typed is not None and levels.leq(typed[1], level):
            row.append((index, typed))
    return row


class WholeTests(unittest.TestCase):
    def test_the_work_is_rich(self):
        kinds = {}
        for seed, levels, limit, world, actions, told in worlds(40, 60):
            for action, answer in zip(actions, told):
                if answer[0] == "done" and answer[1] != []:
                    kinds[action[0]] = kinds.get(action[0], 0) + 1
        for word, least in [("call", 500), ("edit", 30), ("offer", 20), ("approve", 5), ("withdraw", 1), ("fork", 50), ("offline", 100),
                            ("merge", 5), ("home", 20)]:
            self.assertGreaterEqual(kinds.get(word, 0), least, (word, kinds))

    def test_a_what_is_told_hangs_on_what_is_below_alone(self):
        for seed, levels, limit, world, actions, told in worlds(42, 50):
            entered = approvals(world, actions, told)
            for level in levels.names():
                alone = World(levels, limit)
                for index, action in history_for(levels, level, actions, entered):
                    answer = alone.do(action)
                    if action is actions[index]:
                        self.assertEqual(answer, told[index], (seed, level, action))
                    else:
                        self.assertEqual(answer, ("done", ("told", told[index][1])))
                for each in levels.downs(level):
                    self.assertEqual(seen_of(alone.engine, each), seen_of(world.engine, each), (seed, level, each))

    def test_b_who_is_not_above_sees_no_change(self):
        for seed, levels, limit, world, actions, told in worlds(21, 40):
            entered, again = approvals(world, actions, told), World(levels, limit)
            for action, typed in zip(actions, entered):
                makers = [action[1]] + ([typed[1]] if typed is not None else [])
                others = [each for each in levels.names() if not any(levels.leq(maker, each) for maker in makers)]
                views = {each: again.engine.view(each) for each in levels.names()}
                before = [seen_of(again.engine, each) for each in others]
                again.do(action)
                self.assertEqual([seen_of(again.engine, each) for each in others], before, (seed, action))
                for each in levels.names():
                    if each not in makers:
                        self.check_own_nodes(each, views[each], again.engine.view(each))

    def check_own_nodes(self, level, before, behind):
        """Nodes of a level stay as they are; new ones are copies of others, with the mark of another level."""
        for name in before.walk():
            if before[name][2] == level:
                self.assertEqual([behind[name], behind.holds(name)], [before[name], before.holds(name)])
        for name in behind.walk():
            if behind[name][2] == level and name not in before:
                self.assertNotEqual(name[-1][0], level)
                self.assertEqual(behind[name][:4], behind[name[:-1]][:4])

    def test_c_undo_leads_back_and_redo_again(self):
        for seed, levels, limit, world, actions, told in worlds(21, 40):
            for level in levels.names():
                views = [world.engine.view(level)]
                while world.engine.perform(level, ("undo",))[0] == "told":
                    views.append(world.engine.view(level))
                self.assertEqual(world.engine.perform(level, ("undo",)), ("refused", "nothing", None))
                self.assertFalse([name for name in world.engine.view(level).walk() if name[-1][0] == level and name[0][0] == level and len(name) == 1])
                for view in views[-2::-1]:
                    self.assertEqual(world.engine.perform(level, ("redo",))[0], "told")
                    self.assertEqual(world.engine.view(level), view)

    def test_d_actions_of_levels_that_cannot_be_compared_change_places(self):
        changed = 0
        for seed, levels, limit, world, actions, told in worlds(42, 40):
            entered, order = approvals(world, actions, told), list(range(len(actions)))
            for _ in range(3):
                for at in range(len(order) - 1):
                    # An approval is a deed of the lower level, too.
                    first, second = [[actions[index][1]] + ([entered[index][1]] if entered[index] else []) for index in order[at:at + 2]]
                    if not any(levels.leq(one, other) or levels.leq(other, one) for one in first for other in second):
                        order[at], order[at + 1] = order[at + 1], order[at]
                        changed += 1
            again = World(levels, limit)
            for index in order:
                self.assertEqual(again.do(actions[index]), told[index], (seed, actions[index]))
            for level in levels.names():
                self.assertEqual(seen_of(again.engine, level), seen_of(world.engine, level), (seed, level))
        self.assertGreater(changed, 50)

    def test_e_an_edit_leads_to_the_changed_text(self):
        found = 0
        for seed, levels, limit, world, actions, told in worlds(30, 50):
            again = World(levels, limit)
            for action, answer in zip(actions, told):
                again.do(action)
                if action[0] == "edit" and answer[0] == "done" and all(each[0] == "told" for each in answer[1]):
                    made = [each[1] for each in answer[1] if isinstance(each[1], tuple)]
                    lines = [self.plain(line) for line in format_view(again.engine.view(action[1])).split("\n")]
                    wanted = [self.plain(line) for line in action[2].split("\n")]
                    self.assertEqual([line for line in lines if not line.startswith("loose")], [line for line in wanted if not line.startswith("loose")])
                    found += len(made) > 0
        self.assertGreater(found, 5)

    def plain(self, line):
        """Returns a line without the name in it."""
        words = line.lstrip(" ").split(" ", 2)
        return line if words[0] == "loose" or len(words) < 3 else " ".join([line[:len(line) - len(line.lstrip(" "))] + words[0], words[2]])

    def test_e_questions_hang_on_the_view_alone(self):
        for seed, levels, limit, world, actions, told in worlds(14, 40):
            alone = {}
            for level in levels.names():
                alone[level] = World(levels, limit)
                for index, action in history_for(levels, level, actions, approvals(world, actions, told)):
                    alone[level].do(action)
                one, other = world.engine.view(level), alone[level].engine.view(level)
                self.assertFalse(compare_views(one, other))
                path = (from_root() | from_loose()) // any_node()
                self.assertEqual([path(one), format_view(one)], [path(other), format_view(other)])
                for key in ("kind", "text", "level", "size"):
                    self.assertEqual(sorted_by(one, path(one), key), sorted_by(other, path(other), key))
                    self.assertEqual(grouped_by(one, path(one), key), grouped_by(other, path(other), key))

    def test_f_copies_merge_in_any_order(self):
        merged = 0
        for seed, levels, limit, world, actions, told in worlds(42, 60):
            for level, copy in world.copies.items():
                order = [record.mark for record in copy.records()]
                self.assertEqual(copy.joined(copy), copy)
                for lower, other in world.copies.items():
                    if lower == level or not levels.leq(lower, level) or world_bases_differ(copy, other):
                        continue
                    joined = copy.joined(other)
                    self.assertEqual([record.mark for record in joined.records() if record.mark in copy], order)
                    self.assertEqual([joined.joined(other), joined.twin().view()], [joined, joined.view()])
                    merged += 1
        self.assertGreater(merged, 3)

    def test_g_recovery(self):
        for seed, levels, limit, world, actions, told in worlds(28, 50):
            journals = Journals.of(world.engine)
            again, answers = journals.recovered()
            for level in levels.names():
                self.assertEqual(seen_of(again, level), seen_of(world.engine, level))
            for level, copy in world.copies.items():
                taken = [mark for mark in world.home.marks()]
                self.assertEqual(Home(again, taken=taken).take(copy), Home(world.engine.twin(), taken=taken).take(copy))
            lengths = {level: len(world.engine.log(level)) * (seed % 4) // 4 for level in levels.names()}
            lengths[levels.names()[-1]] = 1000
            cut = journals.cut(lengths)
            again, answers = cut.recovered()
            self.assertTrue(all(answer[0] == "told" for answer in answers.values()))
            for level in levels.names():
                self.assertEqual(again.log(level), world.engine.log(level)[:cut.standing()[level]])

    def test_h_scripts_are_done_whole_or_not_at_all(self):
        text = 'x = insert(node("/"), 0, "list", "l"); for p in find("pocket") { copy(p, x, 0); } tell size(kids(x)); delete(node("low.1"));'
        for seed, levels, limit, world, actions, told in worlds(21, 30):
            for level in levels.names():
                before = [seen_of(world.engine, each) for each in levels.names()]
                views = {each: world.engine.view(each) for each in levels.names()}
                answer = world.engine.perform(level, ("script", text))
                if answer[0] == "refused":
                    self.assertEqual([seen_of(world.engine, each) for each in levels.names()], before)
                else:
                    self.assertEqual(world.engine.perform(level, ("undo",)), ("told", "script"))
                    held = {name: views[level].holds(name) for name in views[level].walk() if views[level][name][2] == level}
                    self.assertEqual({name: world.engine.view(level).holds(name) for name in held}, held)

    def test_i_the_checker_finds_nothing(self):
        for seed, levels, limit, world, actions, told in worlds(28, 50):
            calls = [row[:2] for row in world.server.log()]
            self.assertIsNone(first_leak(levels, calls, limit=limit))
            self.assertIsNone(first_loss(levels, calls, limit=limit))
            if not any(answer[0] == "done" and answer[1] for action, answer in zip(actions, told) if action[0] == "home"):
                self.assertIsNone(first_wrong(levels, world.server.log(), limit))


def world_bases_differ(copy, other):
    """Tells whether another copy was made when the engine had accepted something else of its levels."""
    return [row for row in copy.base if row in other.base] != list(other.base) or \
        len([row for row in copy.base if copy.levels.leq(row[0], other.level)]) != len(other.base)


if __name__ == "__main__":
    unittest.main()
