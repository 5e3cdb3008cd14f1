"""Tests of edits from changed texts ([15], [16])."""

import random
import unittest

from helpers import diamond, high, low, told, two_levels
from maskededits.edits import Edit
from maskededits.engine import Engine
from maskededits.errors import InvalidEdit, InvalidLevel, InvalidText, InvalidView
from maskededits.levels import Levels
from maskededits.texts import Line, format_view, parse_lines
from model import history

ORDERS = [
    Levels(["low", "high"]),
    Levels(["low", "east", "west", "top"], [("east", "top"), ("west", "top")]),
    Levels(["a", "b", "c"], [("b", "c")]),
]


def lines_of(*rows):
    return "\n".join(rows)


def done(engine, level, text):
    """Does the edit of the view of a level on a twin, and returns the twin, the edit and the answers."""
    twin = engine.twin()
    edit = Edit(engine.view(level), level, text)
    return twin, edit, edit(lambda deed: twin.perform(level, deed))


def shelf():
    """Returns an engine: low.1 list with low.2 line and pocket low.3 {high}, in it high.1 item with high.2 line and
    pocket high.3 [top]; behind it low.4 line and pocket low.5 {high} with high.4 line; loose box low.6 of high."""
    engine = Engine(Levels(["low", "high", "top"], [("high", "top")]))
    told(engine, "low", ("insert", (), 0, "list", "plans"), ("insert", low(1), 0, "line", "one"),
         ("pocket", low(1), 1, "high", "notes"), ("insert", (), 1, "line", "two"), ("pocket", (), 2, "high", "more"),
         ("box", "high"))
    told(engine, "high", ("insert", low(3), 0, "item", "ours"), ("insert", high(1), 0, "line", "deep"),
         ("pocket", high(1), 1, "top", "shut"), ("insert", low(5), 0, "line", "last"))
    told(engine, "top", ("insert", high(3), 0, "line", "hidden"))
    return engine


LOW = ['list low.1 "plans"', '  line low.2 "one"', '  pocket low.3 [high] "notes"', 'line low.4 "two"',
       'pocket low.5 [high] "more"']
HIGH = ['list low.1 "plans"', '  line low.2 "one"', '  pocket low.3 {high} "notes"', '    item high.1 "ours"',
        '      line high.2 "deep"', '      pocket high.3 [top] "shut"', 'line low.4 "two"', 'pocket low.5 {high} "more"',
        '  line high.4 "last"', 'loose low.6']


def bare(lines):
    """Returns lines without those of empty loose boxes."""
    return [line for at, line in enumerate(lines) if line.text is not None
            or (at + 1 < len(lines) and lines[at + 1].depth > 0)]


class EditCase(unittest.TestCase):
    def assert_leads_to(self, engine, level, text, kinds=None):
        """Asserts that an edit is done whole and leads exactly to the text; returns the twin behind it."""
        before = engine.view(level)
        twin, edit, answers = done(engine, level, text)
        self.assertEqual([answer[0] for answer in answers], ["told"] * len(edit), (text, answers))
        self.assertEqual(len(edit.kinds()), len(edit))
        self.assertEqual(edit.moves, edit.kinds().count("move"))
        if kinds is not None:
            self.assertEqual(edit.kinds(), kinds, text)
        wanted, reached = bare(parse_lines(text)), bare(parse_lines(format_view(twin.view(level))))
        self.assertEqual(len(wanted), len(reached), text)
        met = set()
        for one, other in zip(wanted, reached):
            self.assertEqual((one.depth, one.kind, one.inner, one.is_open, one.text),
                             (other.depth, other.kind, other.inner, other.is_open, other.text), text)
            if one.node_name is None:
                self.assertEqual(len(other.node_name), 1)
                self.assertNotIn(other.node_name, before)
            elif one.node_name in met:
                # In a copy of a piece in which there is a copy a name is longer by two marks.
                self.assertEqual(other.node_name[:len(one.node_name)], one.node_name)
                self.assertNotIn(other.node_name, before)
            else:
                self.assertEqual(one.node_name, other.node_name, text)
                met.add(one.node_name)
        return twin


class AskingTests(EditCase):
    def low(self, rows, kinds):
        return self.assert_leads_to(shelf(), "low", lines_of(*rows), kinds)

    def high(self, rows, kinds):
        return self.assert_leads_to(shelf(), "high", lines_of(*rows), kinds)

    def test_the_example_of_the_document(self):
        engine = two_levels()
        told(engine, "low", ("insert", (), 0, "list", "plans"), ("pocket", (), 1, "high", "notes"))
        told(engine, "high", ("insert", low(2), 0, "item", "ours"))
        text = lines_of('list low.1 "new"', '  item - "milk"', '  pocket low.2 [high] "notes"', 'pocket low.2 [high] "notes"')
        twin, edit, answers = done(engine, "low", text)
        self.assertEqual([edit.kinds(), edit.moves, len(edit)], [["change", "insert", "move", "copy"], 1, 4])
        self.assertEqual(answers, [("told", "plans"), ("told", low(3)), ("told", None), ("told", (*low(2), *low(4)))])
        self.assertEqual(format_view(twin.view("high")), lines_of(
            'list low.1 "new"', '  item low.3 "milk"', '  pocket low.2 {high} "notes"', '    item high.1 "ours"',
            'pocket low.2+low.4 {high} "notes"', '  item high.1+low.4 "ours"'))

    def test_the_unchanged_text_asks_for_no_deed(self):
        self.assertEqual(format_view(shelf().view("low")), lines_of(*LOW))
        self.assertEqual(format_view(shelf().view("high")), lines_of(*HIGH))
        self.low(LOW, [])
        self.high(HIGH, [])
        self.high(HIGH[:-1], [])
        self.assertEqual(Edit(shelf().view("top"), "top", format_view(shelf().view("top"))).kinds(), [])
        self.assertEqual(Edit(two_levels().view("low"), "low", "").kinds(), [])

    def test_new_nodes(self):
        self.low(['line - "first"', *LOW], ["insert"])
        self.low([*LOW, 'loose - "last"', '  item - ""', '    item - ""', '  item - ""'], ["insert"] * 4)
        self.low([*LOW[:2], '    line - "a"', '    line - "b"', *LOW[2:4], '  line - ""', LOW[4]], ["insert"] * 3)
        self.high([*HIGH[:3], '    line - "a"', *HIGH[3:5], '        line - "b"', *HIGH[5:], '  line - "c"'],
                  ["insert"] * 3)

    def test_new_pockets(self):
        self.low([*LOW, 'pocket - [high] "a"', 'pocket - [top] "b"', 'line - ""', '  pocket - [high] ""'],
                 ["pocket", "pocket", "insert", "pocket"])
        self.high([*HIGH[:5], '        pocket - [top] "x"', *HIGH[5:], '  pocket - [top] "y"'], ["pocket"] * 2)

    def test_a_new_pocket_in_braces(self):
        # A level sees into no box of a level above it, so only a view of a higher level can ask for this.
        engine = two_levels()
        told(engine, "low", ("insert", (), 0, "line", "a"))
        edit = Edit(engine.view("high"), "low", 'pocket - {high} "x"\nline low.1 "a"')
        self.assertEqual(edit.kinds(), ["pocket"])
        self.assertEqual(edit(lambda deed: engine.perform("low", deed)), [("told", low(2))])
        self.assertEqual(format_view(engine.view("high")), 'pocket low.2 {high} "x"\nline low.1 "a"')

    def test_a_new_pocket_in_brackets_into_which_the_view_would_see(self):
        engine = two_levels()
        told(engine, "low", ("insert", (), 0, "line", "a"))
        with self.assertRaises(InvalidEdit) as caught:
            Edit(engine.view("high"), "low", 'line low.1 "a"\npocket - [high] "x"')
        self.assertEqual(caught.exception.value, 1)

    def test_nodes_left_out(self):
        self.low([], ["delete"] * 3)
        self.low(LOW[3:], ["delete"])
        self.low([LOW[0], *LOW[3:]], ["delete"] * 2)
        self.high([*HIGH[:3], *HIGH[6:]], ["delete"])
        self.high([*HIGH[:4], *HIGH[5:8], "loose low.6"], ["delete"] * 2)

    def test_the_order_of_deletes(self):
        edit = Edit(shelf().view("low"), "low", "")
        deeds = []
        edit(lambda deed: deeds.append(deed) or ("told", None))
        self.assertEqual(deeds, [("delete", low(1)), ("delete", low(4)), ("delete", low(5))])

    def test_nodes_left_out_whose_children_are_kept(self):
        self.low(['line low.2 "one"', *LOW[3:]], ["move", "delete"])
        self.low(['line low.4 "two"', '  pocket low.3 [high] "notes"'], ["move", "delete", "delete"])
        self.high([*HIGH[:3], '    line high.2 "deep"', '      pocket high.3 [top] "shut"', *HIGH[6:]],
                  ["move", "move", "delete"])
        self.high([*HIGH[:3], *HIGH[6:8], '  pocket high.3 [top] "shut"', '  line high.4 "last"'], ["move", "delete"])

    def test_other_places(self):
        self.low([LOW[3], *LOW[:3], LOW[4]], ["move"])
        self.low([LOW[4], *LOW[:4]], ["move"])
        self.low([LOW[4], LOW[3], *LOW[:3]], ["move"] * 2)
        self.low([LOW[0], LOW[2], LOW[1], *LOW[3:]], ["move"])
        self.high([*HIGH[:3], *HIGH[6:8], '  item high.1 "ours"', '    line high.2 "deep"', '    pocket high.3 [top] "shut"',
                   '  line high.4 "last"', "loose low.6"], ["move"])
        self.high([*HIGH[:8], HIGH[9], HIGH[8]], ["move"])

    def test_hidden_content_moves_and_is_copied_with_its_pocket(self):
        twin = self.low([LOW[2][2:], *LOW[:2], *LOW[3:], LOW[2][2:]], ["move", "copy"])
        self.assertEqual(format_view(twin.view("top")).split("\n")[:5], [
            'pocket low.3 {high} "notes"', '  item high.1 "ours"', '    line high.2 "deep"', '    pocket high.3 {top} "shut"',
            '      line top.1 "hidden"'])
        self.assertEqual(format_view(twin.view("top")).split("\n")[-6:-1], [
            'pocket low.3+low.7 {high} "notes"', '  item high.1+low.7 "ours"', '    line high.2+low.7 "deep"',
            '    pocket high.3+low.7 {top} "shut"', '      line top.1+low.7 "hidden"'])

    def test_other_texts(self):
        self.low(['list low.1 "x"', *LOW[1:3], 'line low.4 ""', LOW[4]], ["change"] * 2)
        self.low([*LOW[:2], '  pocket low.3 [high] "\\""', *LOW[3:]], ["change"])
        self.high([*HIGH[:5], '      pocket high.3 [top] "y"', *HIGH[6:]], ["change"])
        self.low(['line low.4 "2"', *LOW[:3], LOW[4]], ["move", "change"])

    def test_copies(self):
        self.low([*LOW, LOW[3]], ["copy"])
        self.low([*LOW, *LOW[:3]], ["copy"])
        self.low([*LOW, LOW[3], LOW[3], LOW[3]], ["copy"] * 3)
        self.low([*LOW[:3], '  line low.2 "one"', *LOW[3:], LOW[1][2:]], ["copy"] * 2)
        self.low([LOW[3], *LOW], ["move", "copy"])
        self.high([*HIGH[:9], '  item high.1 "ours"', '    line high.2 "deep"', '    pocket high.3 [top] "shut"', HIGH[9],
                   '  line high.4 "last"'], ["copy"] * 2)

    def test_copies_of_nodes_of_which_a_part_is_moved_away_and_copied(self):
        self.low([LOW[1][2:], *LOW, *LOW[:3]], ["move", "copy", "copy"])
        self.low([*LOW[:3], *LOW[:3], LOW[1][2:], *LOW[3:]], ["copy"] * 2)

    def test_all_together(self):
        rows = ['line low.4 "2"', '  line low.2 "one"', '    pocket low.5 [high] "more"', '  item - "n"',
                '    pocket - [top] "p"']
        self.low([*rows, '    pocket low.5 [high] "more"'],
                 ["change", "move", "move", "insert", "pocket", "copy", "delete"])
        self.low([*rows, 'pocket low.5 [high] "more"', 'line - ""', '  pocket low.5 [high] "more"'],
                 ["change", "move", "move", "insert", "pocket", "copy", "insert", "copy", "delete"])

    def test_pieces_that_are_moved_into_each_others_places(self):
        engine = two_levels()
        told(engine, "low", ("insert", (), 0, "list", "a"), ("insert", low(1), 0, "list", "b"),
             ("insert", low(2), 0, "list", "c"))
        turned = lines_of('list low.3 "c"', '  list low.2 "b"', '    list low.1 "a"')
        self.assert_leads_to(engine, "low", turned, ["move"] * 3)
        self.assert_leads_to(engine, "low", lines_of('list low.2 "b"', '  list low.1 "a"', '    list low.3 "c"'), ["move"] * 3)
        self.assert_leads_to(engine, "low", lines_of('list low.2 "b"', '  list low.3 "c"', '  list low.1 "a"'), ["move"] * 2)

    def test_loose_boxes(self):
        engine = two_levels()
        told(engine, "low", ("box", "high"), ("box", "high"), ("box", "high"))
        told(engine, "high", ("insert", low(1), 0, "line", "a"), ("insert", low(3), 0, "line", "b"))
        rows = ["loose low.1", '  line high.1 "a"', "loose low.2", "loose low.3", '  line high.2 "b"']
        self.assert_leads_to(engine, "high", lines_of(*rows), [])
        self.assert_leads_to(engine, "high", "", ["delete"] * 2)
        self.assert_leads_to(engine, "high", lines_of(*rows[:2]), ["delete"])
        self.assert_leads_to(engine, "high", lines_of(rows[0], rows[2], rows[4], rows[1]), ["move", "move"])
        self.assert_leads_to(engine, "high", lines_of("loose low.2", '  line - ""'), ["insert", "delete", "delete"])
        self.assertEqual(Edit(engine.view("high"), "high", "loose low.3\n" + '  line high.2 "b"').kinds(), ["delete"])

    def test_a_deed_that_is_refused_stops_the_rest(self):
        engine = shelf()
        twin, edit, answers = done(engine, "low", lines_of(*LOW, 'line - "a"', 'pocket - [none] ""', 'line - "b"'))
        self.assertEqual(edit.kinds(), ["insert", "pocket", "insert"])
        self.assertEqual(answers, [("told", low(7)), ("refused", "above", "none")])
        full = Engine(Levels(["low", "high"]), limit=1)
        told(full, "low", ("insert", (), 0, "line", "a"))
        twin, edit, answers = done(full, "low", 'line - "b"')
        self.assertEqual([edit.kinds(), answers], [["insert", "delete"], [("refused", "full", 1)]])
        self.assertEqual(format_view(twin.view("low")), 'line low.1 "a"')

    def test_an_edit_can_be_done_again_elsewhere(self):
        engine = shelf()
        edit = Edit(engine.view("low"), "low", lines_of('line - ""', '  line - ""', *LOW))
        other = engine.twin()
        told(other, "low", ("box", "high"), ("box", "top"))
        for each, first in [(engine, 7), (other, 9)]:
            self.assertEqual(edit(lambda deed: each.perform("low", deed)), [("told", low(first)), ("told", low(first + 1))])
        self.assertEqual([edit.kinds(), len(edit), edit.moves], [["insert", "insert"], 2, 0])

    def test_what_is_returned_is_new(self):
        edit = Edit(shelf().view("low"), "low", lines_of(*LOW, 'line - ""'))
        edit.kinds().clear()
        answers = edit(lambda deed: ("told", low(7)))
        answers.clear()
        self.assertEqual([edit.kinds(), edit(lambda deed: ("told", low(7)))], [["insert"], [("told", low(7))]])


class ErrorTests(unittest.TestCase):
    def value(self, view, level, rows):
        """Returns the value of the InvalidEdit that a text raises."""
        with self.assertRaises(InvalidEdit) as caught:
            Edit(view, level, rows if isinstance(rows, str) else lines_of(*rows))
        return caught.exception.value

    def low(self, *rows):
        return self.value(shelf().view("low"), "low", rows)

    def high(self, *rows):
        return self.value(shelf().view("high"), "high", rows)

    def test_what_is_no_view(self):
        for thing in [None, 0, "", (), shelf(), format_view(shelf().view("low")), Line, []]:
            with self.assertRaises(InvalidView) as caught:
                Edit(thing, None, None)
            self.assertIs(caught.exception.value, thing)

    def test_levels_that_cannot_edit_a_view(self):
        for view, level in [(shelf().view("low"), "high"), (shelf().view("high"), "low"), (shelf().view("high"), "top"),
                            (shelf().view("low"), None), (shelf().view("low"), "none"), (shelf().view("low"), ""),
                            (shelf().view("top"), "high"), (shelf().view("low"), ["low"]), (shelf().view("low"), {}),
                            (shelf().view("low"), 0)]:
            with self.assertRaises(InvalidLevel) as caught:
                Edit(view, level, None)
            self.assertIs(caught.exception.value, level)
        self.assertEqual(Edit(shelf().view("low") & shelf().view("high"), "low", lines_of(*LOW)).kinds(), [])

    def test_levels_whose_pockets_are_closed_edit_views_of_others(self):
        engine = diamond()
        told(engine, "low", ("pocket", (), 0, "east", "e"), ("pocket", (), 1, "west", "w"))
        told(engine, "east", ("pocket", low(1), 0, "top", "t"))
        both = engine.view("east") | engine.view("west")
        self.assertEqual(Edit(both, "east", format_view(both)).kinds(), [])
        self.assertEqual(Edit(engine.view("top"), "west", format_view(engine.view("top"))).kinds(), [])
        for view, level in [(both, "low"), (engine.view("top"), "east")]:
            with self.assertRaises(InvalidLevel):
                Edit(view, level, format_view(view))
        told(engine, "low", ("delete", low(1)), ("delete", low(2)))
        self.assertEqual(Edit(engine.view("west"), "low", "").kinds(), [])

    def test_texts_that_are_none(self):
        for text, value in [(None, None), (5, None), (b"", None), ("x", 0), ('line - ""\n\nline low.99 ""', 1),
                            ('line low.99 ""\nx', 1), ('pocket low.3 [high] ""\n  line - ""', 1)]:
            with self.assertRaises(InvalidText) as caught:
                Edit(shelf().view("low"), "low", text)
            self.assertEqual(caught.exception.value, value)

    def test_lines_of_unknown_names(self):
        self.assertEqual(self.low(*LOW, 'line low.9 ""'), 5)
        self.assertEqual(self.low('line high.1 ""', *LOW), 0)
        self.assertEqual(self.low('line low.6 ""', *LOW), 0)
        self.assertEqual(self.high(*HIGH[:3], '    line low.1+low.2 ""', *HIGH[3:]), 3)
        self.assertEqual(self.low(*LOW, "loose low.6"), 5)
        self.assertEqual(self.high(*HIGH, "loose low.7"), 10)
        self.assertEqual(self.high(*HIGH[:9], "loose low.5"), 9)

    def test_other_kinds_and_inner_levels(self):
        self.assertEqual(self.low('line low.1 "plans"', *LOW[1:]), 0)
        self.assertEqual(self.low(*LOW[:4], 'pocket low.5 [top] "more"'), 4)
        self.assertEqual(self.low(*LOW[:4], 'pocket low.5 {high} "more"'), 4)
        self.assertEqual(self.low(*LOW[:4], 'line low.5 "more"'), 4)
        self.assertEqual(self.low(*LOW[:3], 'pocket low.4 [high] "two"', LOW[4]), 3)
        self.assertEqual(self.high(*HIGH[:5], '      pocket high.3 {top} "shut"', *HIGH[6:]), 5)

    def test_new_pockets_with_other_brackets_and_inner_levels(self):
        for part in ["{high}", "{top}", "[low]", "{low}", "{none}"]:
            self.assertEqual(self.low(*LOW, f'pocket - {part} ""'), 5, part)
        for part in ["{top}", "[low]", "{low}", "[high]", "{high}", "{none}"]:
            self.assertEqual(self.high(*HIGH[:9], f'  pocket - {part} ""'), 9, part)
        self.assertEqual(Edit(shelf().view("high"), "high", lines_of(*HIGH[:9], '  pocket - [none] ""')).kinds(), ["pocket"])
        self.assertEqual(Edit(shelf().view("low"), "low", lines_of(*LOW, 'pocket - [none] ""')).kinds(), ["pocket"])
        engine = diamond()
        told(engine, "low", ("pocket", (), 0, "east", ""), ("pocket", (), 1, "west", ""))
        both = engine.view("east") | engine.view("west")
        rows = format_view(both).split("\n")
        self.assertEqual(Edit(both, "east", lines_of(rows[0], '  pocket - {west} ""', rows[1])).kinds(), ["pocket"])
        self.assertEqual(Edit(both, "east", lines_of(rows[0], '  pocket - [top] ""', rows[1])).kinds(), ["pocket"])
        self.assertEqual(self.value(both, "east", [rows[0], '  pocket - [west] ""', rows[1]]), 1)
        self.assertEqual(self.value(both, "west", [*rows, '  pocket - {east} ""']), 2)
        self.assertEqual(self.value(both, "west", [*rows, '  pocket - {west} ""']), 2)
        self.assertEqual(self.value(both, "west", [*rows, '  pocket - {low} ""']), 2)

    def test_nodes_in_holders_of_other_levels(self):
        self.assertEqual(self.high('line - ""', *HIGH), 0)
        self.assertEqual(self.high(*HIGH[:2], '    line - ""', *HIGH[2:]), 2)
        self.assertEqual(self.high(*HIGH[:7], 'line high.4 "last"', *HIGH[7:8], HIGH[9]), 7)
        self.assertEqual(self.high(*HIGH[:7], '  line high.4 "last"', *HIGH[7:8], HIGH[9]), 7)
        self.assertEqual(self.high(*HIGH[:9], 'line high.4 "last"'), 9)
        self.assertEqual(self.high(*HIGH[:5], '        line low.4 "two"', HIGH[5], *HIGH[7:]), 5)
        engine = two_levels()
        told(engine, "low", ("insert", (), 0, "line", "a"))
        edit = 'pocket - {high} "x"\n  line low.1 "a"'
        self.assertEqual(self.value(engine.view("high"), "low", edit), 1)
        self.assertEqual(self.value(engine.view("high"), "low", 'line low.1 "a"\npocket - {high} "x"\n  line - ""'), 2)

    def test_lines_of_nodes_of_other_levels(self):
        self.assertEqual(self.high('list low.1 "x"', *HIGH[1:]), 0)
        self.assertEqual(self.high(HIGH[0], '  item low.2 "one"', *HIGH[2:]), 1)
        self.assertEqual(self.high(*HIGH[:2], '  pocket low.3 {high} "x"', *HIGH[3:]), 2)
        self.assertEqual(self.high(*HIGH[6:9], *HIGH[:6]), 0)
        self.assertEqual(self.high(HIGH[0], *HIGH[2:6], HIGH[1], *HIGH[6:]), 1)
        self.assertEqual(self.high(*HIGH[:2], HIGH[1], *HIGH[2:]), 2)
        self.assertEqual(self.high(*HIGH[:9], 'line low.4 "two"', HIGH[9]), 9)
        self.assertEqual(self.high(*HIGH[:6], '  line low.4 "two"', *HIGH[7:]), 6)

    def test_lines_of_other_levels_that_are_passed_over(self):
        self.assertEqual(self.high(*HIGH[:6], *HIGH[7:]), 6)
        self.assertEqual(self.high(HIGH[0], *HIGH[2:]), 1)
        self.assertEqual(self.high(*HIGH[6:]), 0)
        self.assertEqual(self.high(*HIGH[7:]), 0)

    def test_lines_of_other_levels_that_are_left_out(self):
        self.assertIsNone(self.high())
        self.assertIsNone(self.high(*HIGH[:7]))
        self.assertIsNone(self.high(*HIGH[:6]))
        self.assertIsNone(self.high(*HIGH[:2], *HIGH[6:]))
        self.assertIsNone(self.high(HIGH[0], *HIGH[6:]))
        self.assertIsNone(self.high(HIGH[0], "loose low.6"))
        self.assertEqual(self.high(*HIGH[:2], *HIGH[6:9], '  line - ""', 'line - ""'), 6)
        self.assertIsNone(self.value(shelf().view("high"), "high", ""))

    def test_loose_boxes_in_another_order(self):
        engine = two_levels()
        told(engine, "low", *[("box", "high")] * 11)
        view = engine.view("high")
        self.assertEqual(self.value(view, "high", "loose low.2\nloose low.1"), 1)
        self.assertEqual(self.value(view, "high", "loose low.2\nloose low.2"), 1)
        self.assertEqual(self.value(view, "high", "loose low.1\nloose low.10\nloose low.9"), 2)
        self.assertEqual(Edit(view, "high", "loose low.2\nloose low.10\nloose low.11").kinds(), [])
        self.assertEqual(self.value(view, "high", 'loose low.2\n  line - ""\nloose low.1'), 2)

    def test_loose_boxes_of_other_levels(self):
        engine = diamond()
        told(engine, "low", ("box", "east"), ("box", "top"))
        told(engine, "east", ("insert", low(1), 0, "line", "a"))
        view = engine.view("top")
        rows = ["loose low.1", '  line east.1 "a"', "loose low.2"]
        self.assertEqual(Edit(view, "top", lines_of(*rows)).kinds(), [])
        self.assertEqual(Edit(view, "top", lines_of(*rows, '  line - ""')).kinds(), ["insert"])
        self.assertEqual(self.value(view, "top", [*rows[:2], '  line - ""', rows[2]]), 2)
        self.assertIsNone(self.value(view, "top", rows[2:]))
        self.assertIsNone(self.value(view, "top", [rows[0], rows[2]]))
        self.assertEqual(Edit(view, "top", lines_of(*rows[:2])).kinds(), [])

    def test_copies_that_are_not_like_their_nodes(self):
        node = LOW[:3]
        for copy in [node[:1], node[:2], [node[0], node[2], node[1]], ['list low.1 "x"', *node[1:]],
                     [*node, '  line - ""'], [node[0], '  line low.2 "x"', node[2]], [node[0], '  line - "one"', node[2]],
                     ['line low.1 "plans"', *node[1:]], [node[0], '  line low.4 "two"', node[2]],
                     [*node[:2], '  pocket low.3 {high} "notes"'], [node[0], node[1], '    line - ""', node[2]]]:
            self.assertEqual(self.low(*LOW, *copy), 5, copy)
            self.assertEqual(self.low(*LOW, *node, *copy), 8, copy)
        for changed in [node[:2], ['list low.1 "x"', *node[1:]], [node[0], node[2], node[1]], [*node, '  line - ""'],
                        [node[0], '  line low.2 "x"', node[2]]]:
            self.assertEqual(self.low(*changed, *node, *LOW[3:]), len(changed), changed)
            self.assertEqual(self.low(*changed, *LOW[3:], *changed), len(changed) + 2, changed)
        self.assertEqual(self.low('line low.4 "2"', *LOW[:3], LOW[3], LOW[4]), 4)
        self.assertEqual(self.low(*LOW[:4], '  line low.4 "two"', LOW[4]), 4)
        self.assertEqual(self.low(*LOW[:2], '    line low.2 "one"', *LOW[2:]), 2)
        self.assertEqual(self.low(*LOW[:3], '  list low.1 "plans"', '    line low.2 "one"',
                                  '    pocket low.3 [high] "notes"', *LOW[3:]), 3)
        self.assertEqual(self.low(LOW[0], LOW[1], '    pocket low.3 [high] "notes"', *LOW[3:], *LOW[:3]), 5)

    def test_copies_in_holders_of_other_levels(self):
        self.assertEqual(self.high(*HIGH[:9], 'line high.4 "last"', HIGH[9]), 9)
        self.assertEqual(self.high(*HIGH[:2], '    line low.2 "one"', *HIGH[2:]), 2)

    def test_the_first_line_that_asks_for_more(self):
        self.assertEqual(self.low('line low.9 ""', *LOW, "loose low.7"), 0)
        self.assertEqual(self.low(LOW[0], 'item low.2 "one"', LOW[2][2:], 'line low.9 ""'), 1)
        self.assertEqual(self.low(*LOW[:3], 'line low.9 ""', LOW[0]), 3)
        self.assertEqual(self.low(*LOW[:3], LOW[0], 'line low.9 ""'), 3)
        self.assertEqual(self.high(HIGH[0], 'line low.9 ""'), 1)


def forests(names):
    """Returns all ordered forests of some names, as tuples of (name, forest)."""
    if not names:
        return [()]
    found = []
    for at, name in enumerate(names):
        rest = names[:at] + names[at + 1:]
        for many in range(1 << len(rest)):
            inside = [each for index, each in enumerate(rest) if many >> index & 1]
            behind = [each for index, each in enumerate(rest) if not many >> index & 1]
            found.extend([((name, below), *after) for below in forests(inside) for after in forests(behind)])
    return found


def without(forest, name):
    """Returns a forest without a tree, and the tree."""
    for at, (each, below) in enumerate(forest):
        if each == name:
            return forest[:at] + forest[at + 1:], forest[at]
        left, tree = without(below, name)
        if tree is not None:
            return forest[:at] + ((each, left),) + forest[at + 1:], tree
    return forest, None


def placings(forest, tree):
    """Returns all forests that have one more tree somewhere."""
    found = [forest[:at] + (tree,) + forest[at:] for at in range(len(forest) + 1)]
    for at, (name, below) in enumerate(forest):
        found.extend([forest[:at] + ((name, each),) + forest[at + 1:] for each in placings(below, tree)])
    return found


def names_in(forest):
    return [name for each, below in forest for name in [each, *names_in(below)]]


def distances(start):
    """Returns a dict from all forests that moves and deletes lead to to the least number of moves."""
    found, row, many = {}, [start], 0
    while row:
        waiting, row = row, []
        while waiting:
            forest = waiting.pop()
            if forest not in found:
                found[forest] = many
                for name in names_in(forest):
                    left, tree = without(forest, name)
                    waiting.append(left)
                    row.extend(placings(left, tree))
        many += 1
    return found


def forest_text(forest, texts, depth):
    """Returns the lines of a forest."""
    return [line for name, below in forest for line in ["  " * depth + texts[name], *forest_text(below, texts, depth + 1)]]


class MoveTests(EditCase):
    def test_as_few_moves_as_can_be(self):
        texts = {number: f'list low.{number} ""' for number in range(1, 5)}
        starts = [((1, ()), (2, ()), (3, ()), (4, ())), ((1, ((2, ()), (3, ()))), (4, ())), ((1, ((2, ((3, ((4, ()),)),)),)),)]
        for start in starts:
            engine, holders = two_levels(), {}
            for name in range(1, 5):
                holder = next((each for each in range(1, 5) if name in [below[0] for below in self.below(start, each)]), None)
                spot = () if holder is None else low(holder)
                told(engine, "low", ("insert", spot, len(engine.view("low").holds(spot)), "list", ""))
            found = distances(start)
            self.assertEqual(len(found), 1 + 4 + 6 * 4 + 4 * 30 + 336)
            for forest, many in found.items():
                text = lines_of(*forest_text(forest, texts, 0))
                edit = Edit(engine.view("low"), "low", text)
                self.assertEqual(edit.moves, many, (start, forest))
                if len(names_in(forest)) == 4:
                    self.assertEqual(len(edit), many)
                self.assert_leads_to(engine, "low", text)

    def below(self, forest, name):
        for each, below in forest:
            if each == name:
                return below
            found = self.below(below, name)
            if found is not None:
                return found
        return () if forest == () else None

    def test_as_few_moves_as_can_be_between_boxes(self):
        # Nodes of high in two boxes of low: a state is a pair of forests.
        engine = two_levels()
        told(engine, "low", ("pocket", (), 0, "high", ""), ("pocket", (), 1, "high", ""))
        told(engine, "high", ("insert", low(1), 0, "list", ""), ("insert", low(1), 1, "list", ""),
             ("insert", low(2), 0, "list", ""))
        texts = {number: f'list high.{number} ""' for number in range(1, 4)}
        texts.update({8: 'pocket low.1 {high} ""', 9: 'pocket low.2 {high} ""'})
        start = ((8, ((1, ()), (2, ()))), (9, ((3, ()),)))
        for forest, many in self.box_distances(start).items():
            text = lines_of(*forest_text(forest, texts, 0))
            self.assertEqual(Edit(engine.view("high"), "high", text).moves, many)
            self.assert_leads_to(engine, "high", text, ["move"] * many)

    def box_distances(self, start):
        found, row, many = {}, [start], 0
        while row:
            waiting, row = row, []
            for forest in waiting:
                if forest not in found:
                    found[forest] = many
                    for name in (1, 2, 3):
                        left, tree = without(forest, name)
                        row.extend([each for each in placings(left, tree) if [pocket[0] for pocket in each] == [8, 9]])
            many += 1
        return found


class Judge:
    """Says of each line alone whether it asks for more than [15] allows; slow, after the words of the document."""

    def __init__(self, view, level, lines):
        self.view, self.level, self.lines = view, level, lines
        self.shown = parse_lines(format_view(view))

    def parent(self, at):
        depth = self.lines[at].depth
        return max([place for place in range(at) if self.lines[place].depth == depth - 1], default=None) if depth else None

    def block(self, lines, at):
        found = []
        for line in lines[at:]:
            if found and line.depth <= lines[at].depth:
                break
            found.append((line.depth - lines[at].depth, line.kind, line.node_name, line.inner, line.is_open, line.text))
        return found

    def shown_block(self, name):
        return self.block(self.shown, [line.node_name for line in self.shown].index(name))

    def holder_level(self, at):
        parent = self.parent(at)
        if parent is None:
            return self.view.order[0]
        line = self.lines[parent]
        if line.text is None:
            return self.view.loose[line.node_name]
        return line.inner or (self.level if line.node_name is None else self.view[line.node_name][2])

    def asks_for_more(self, at):
        line, name = self.lines[at], self.lines[at].node_name
        ahead = [place for place in range(at) if self.lines[place].node_name == name]
        if line.text is None:
            boxes = [each.node_name for each in self.lines[:at] if each.text is None]
            return name not in self.view.loose or any(each >= name for each in boxes)
        if name is None:
            before = self.view.order[:self.view.order.index(self.level) + 1]
            wrong = line.inner in [level for level in before if level in self.view.shown]
            return wrong or self.holder_level(at) != self.level or line.is_open != (line.inner in self.view.shown)
        if name not in self.view:
            return True
        if self.view[name][2] != self.level:
            parent = self.parent(at)
            siblings = [place for place in range(at) if self.parent(place) == parent
                        and self.lines[place].text is not None]
            top = () if parent is None else self.lines[parent].node_name
            held = () if top is None or (top in self.view and self.view.holds(top) is None) else self.view.holds(top)
            return held[len(siblings):len(siblings) + 1] != (name,) or self.shown_block(name)[0][1:] != self.block(
                self.lines, at)[0][1:]
        if ahead:
            due = self.shown_block(name)
            return self.holder_level(at) != self.level or any(self.block(self.lines, each) != due for each in (at, ahead[0]))
        return self.holder_level(at) != self.level or self.shown_block(name)[0][1:5] != self.block(self.lines, at)[0][1:5]

    def value(self):
        """Returns the value of the error that is due, or "none"."""
        for at in range(len(self.lines)):
            if self.asks_for_more(at):
                return at
        met = [line.node_name for line in self.lines]
        return None if any(self.view[name][2] != self.level and name not in met for name in self.view.walk()) else "none"


class RandomTests(EditCase):
    """Random changed texts, built as trees of [line, children] so that they ask for nothing that is not allowed."""

    def engines(self, many):
        for seed in range(many):
            levels = ORDERS[seed % len(ORDERS)]
            calls, _ = history(seed, levels, 25)
            engine = Engine(levels, limit=60)
            for level, deed, _ in calls:
                engine.perform(level, deed)
            for level in levels.names():
                yield engine, level, random.Random(f"{seed} {level}")

    def tree_of(self, lines):
        top = [None, []]
        stack = [top]
        for line in lines:
            node = [line, []]
            del stack[line.depth + 1:]
            stack[-1][1].append(node)
            stack.append(node)
        return top

    def all_nodes(self, top):
        return [node for child in top[1] for node in [child, *self.all_nodes(child)]]

    def text_of(self, top):
        def rows(node, depth):
            found = []
            for child in node[1]:
                line = child[0]
                found.append(str(Line(depth, line.kind, line.node_name, line.inner, line.is_open, line.text)))
                found.extend(rows(child, depth + 1))
            return found
        return lines_of(*rows(top, 0))

    def own(self, view, level, node):
        line = node[0]
        return line is not None and line.text is not None and (line.node_name is None or view[line.node_name][2] == level)

    def holders(self, view, level, top):
        found = [top] if view.order[0] == level else []
        for node in self.all_nodes(top):
            line = node[0]
            if line.text is None:
                fine = view.loose[line.node_name] == level
            elif line.inner is not None:
                fine = line.inner == level and line.is_open
            else:
                fine = self.own(view, level, node)
            if fine:
                found.append(node)
        return found

    def place(self, chance, view, holder, node):
        # The lines of loose boxes stand behind those of the root box.
        many = len([child for child in holder[1] if child[0].text is not None])
        holder[1].insert(chance.randint(0, many), node)

    def take_out(self, top, node):
        for each in [top, *self.all_nodes(top)]:
            if any(child is node for child in each[1]):
                each[1][:] = [child for child in each[1] if child is not node]

    def change(self, chance, view, levels, level, top):
        """Changes a tree once."""
        nodes = [node for node in self.all_nodes(top) if self.own(view, level, node)]
        word = chance.choice(["move", "move", "move", "leave", "lift", "insert", "pocket", "change"])
        if word in ("insert", "pocket"):
            holders = self.holders(view, level, top)
            inner = chance.choice([each for each in levels.ups(level) if each != level] or [None]) if word == "pocket" else None
            if holders and (word == "insert" or inner):
                kind = "line" if inner is None else "pocket"
                line = Line(0, kind, None, inner, inner in view.shown, chance.choice(["", "new", '"']))
                self.place(chance, view, chance.choice(holders), [line, []])
            return
        if not nodes:
            return
        node = chance.choice(nodes)
        if word == "change":
            line = node[0]
            node[0] = Line(0, line.kind, line.node_name, line.inner, line.is_open, chance.choice(["", "x", "\\"]))
            return
        self.take_out(top, node)
        holders = self.holders(view, level, top)
        if word == "move" and holders:
            self.place(chance, view, chance.choice(holders), node)
        elif word == "lift" and holders:
            for child in node[1]:
                self.place(chance, view, chance.choice(holders), child)

    def copy(self, chance, view, level, top):
        """Puts in copies of nodes whose lines are those of the view."""
        shown = {node[0].node_name: node for node in self.all_nodes(self.tree_of(parse_lines(format_view(view))))}
        copied = []
        for _ in range(chance.randint(0, 2)):
            nodes = [node for node in self.all_nodes(top) if self.own(view, level, node) and node[0].node_name
                     and self.text_of([None, [node]]) == self.text_of([None, [shown[node[0].node_name]]])]
            if nodes:
                node = chance.choice(nodes)
                copied.append(node)
                inside = [id(each) for name in copied for each in self.all_nodes([None, [name]])]
                holders = [each for each in self.holders(view, level, top) if id(each) not in inside]
                if holders:
                    twin = self.tree_of(parse_lines(self.text_of([None, [node]])))[1][0]
                    copied.append(twin)
                    self.place(chance, view, chance.choice(holders), twin)

    def test_the_unchanged_text_asks_for_no_deed(self):
        for engine, level, chance in self.engines(60):
            edit = Edit(engine.view(level), level, format_view(engine.view(level)))
            self.assertEqual([edit.kinds(), len(edit), edit.moves], [[], 0, 0])

    def test_the_deeds_lead_to_the_text(self):
        kinds = set()
        for engine, level, chance in self.engines(300):
            view = engine.view(level)
            top = self.tree_of(parse_lines(format_view(view)))
            for _ in range(chance.randint(1, 6)):
                self.change(chance, view, engine.levels, level, top)
            self.copy(chance, view, level, top)
            text = self.text_of(top)
            kinds.update(Edit(view, level, text).kinds())
            self.assert_leads_to(engine, level, text)
        self.assertEqual(kinds, {"insert", "pocket", "move", "copy", "change", "delete"})

    def test_a_text_is_reached_or_refused(self):
        reached = refused = 0
        for engine, level, chance in self.engines(400):
            rows = format_view(engine.view(level)).split("\n")
            for _ in range(chance.randint(1, 3)):
                at, place = chance.randrange(len(rows)), chance.randrange(len(rows))
                row = rows[at]
                change = chance.randrange(9)
                if change == 0:
                    del rows[at]
                elif change == 1:
                    rows.insert(place, row)
                elif change == 2:
                    rows[at], rows[place] = rows[place], rows[at]
                elif change == 3:
                    rows[at] = "  " + row
                elif change == 4:
                    rows[at] = row[2:] if row[:2] == "  " else row
                elif change == 5:
                    rows[at] = row[:-1] + 'x"' if row[-1:] == '"' else row
                elif change == 6:
                    inner = chance.choice(["{", "["]) + chance.choice([*engine.levels.names(), "none"])
                    rows.insert(at, 'pocket - ' + inner + ("}" if inner[0] == "{" else "]") + ' "n"')
                elif change == 7:
                    end = max([place for place in range(at, len(rows)) if all(
                        len(each) - len(each.lstrip()) > len(row) - len(row.lstrip()) for each in rows[at + 1:place + 1])])
                    rows[place:place] = rows[at:end + 1]
                else:
                    rows.insert(at, row[:len(row) - len(row.lstrip())] + 'line - "n"')
                rows = rows or [""]
            text = lines_of(*rows)
            try:
                Edit(engine.view(level), level, text)
            except InvalidText:
                continue
            except InvalidEdit as error:
                self.assertEqual(error.value, Judge(engine.view(level), level, parse_lines(text)).value(), (level, text))
                refused += 1
                continue
            self.assertEqual(Judge(engine.view(level), level, parse_lines(text)).value(), "none")
            if ("refused", "above") in [answer[:2] for answer in done(engine, level, text)[2]]:
                continue
            reached += 1
            self.assert_leads_to(engine, level, text)
        self.assertGreater(reached, 100)
        self.assertGreater(refused, 100)

    def test_an_edit_depends_on_the_view_alone(self):
        for engine, level, chance in self.engines(40):
            alone = Engine(engine.levels, limit=60)
            for each, deed, value in engine.entries:
                if engine.levels.leq(each, level):
                    alone.perform(each, deed)
            text = lines_of(*format_view(engine.view(level)).split("\n")[::2])
            found = []
            for each in (engine, alone):
                try:
                    found.append(Edit(each.view(level), level, text).kinds())
                except (InvalidText, InvalidEdit) as error:
                    found.append(error.value)
            self.assertEqual(found[0], found[1])


if __name__ == "__main__":
    unittest.main()
