"""Tests of the texts of views ([14])."""

import itertools
import unittest

from helpers import diamond, high, low, told, two_levels
from maskededits.errors import InvalidText
from maskededits.texts import Line, format_view, parse_lines, quoted
from model import history


def lines_of(*rows):
    return "\n".join(rows)


class FormatTests(unittest.TestCase):
    def test_the_empty_view(self):
        self.assertEqual([format_view(two_levels().view(level)) for level in ("low", "high")], ["", ""])

    def test_nodes_pockets_and_loose_boxes(self):
        engine = two_levels()
        told(engine, "low", ("insert", (), 0, "list", "plans"), ("insert", low(1), 0, "line", 'say "no" \\ yes'),
             ("pocket", low(1), 1, "high", ""), ("insert", (), 1, "loose", "x"), ("box", "high"),
             ("pocket", (), 0, "high", "gone"))
        told(engine, "high", ("insert", low(3), 0, "item", "ours"), ("insert", high(1), 0, "line", "deep"),
             ("insert", low(6), 0, "loose", "y"), ("insert", high(3), 0, "line", ""))
        told(engine, "low", ("delete", low(6)), ("copy", low(3), (), 2))
        self.assertEqual(format_view(engine.view("low")), lines_of(
            'list low.1 "plans"', '  line low.2 "say \\"no\\" \\\\ yes"', '  pocket low.3 [high] ""', 'loose low.4 "x"',
            'pocket low.3+low.7 [high] ""'))
        self.assertEqual(format_view(engine.view("high")), lines_of(
            'list low.1 "plans"', '  line low.2 "say \\"no\\" \\\\ yes"', '  pocket low.3 {high} ""',
            '    item high.1 "ours"', '      line high.2 "deep"', 'loose low.4 "x"', 'pocket low.3+low.7 {high} ""',
            '  item high.1+low.7 "ours"', '    line high.2+low.7 "deep"', 'loose low.5', 'loose low.6',
            '  loose high.3 "y"', '    line high.4 ""'))

    def test_a_view_of_loose_boxes_alone(self):
        engine = two_levels()
        told(engine, "low", *[("box", "high")] * 11)
        self.assertEqual(format_view(engine.view("low")), "")
        self.assertEqual(format_view(engine.view("high")), lines_of(*[f"loose low.{index + 1}" for index in range(11)]))

    def test_pockets_that_some_levels_see_into(self):
        engine = diamond()
        told(engine, "low", ("pocket", (), 0, "east", "e"), ("pocket", (), 1, "west", "w"), ("pocket", (), 2, "top", "t"))
        rows = {level: format_view(engine.view(level)).split("\n") for level in ("low", "east", "west", "top")}
        self.assertEqual(rows["low"], ['pocket low.1 [east] "e"', 'pocket low.2 [west] "w"', 'pocket low.3 [top] "t"'])
        self.assertEqual(rows["east"], ['pocket low.1 {east} "e"', 'pocket low.2 [west] "w"', 'pocket low.3 [top] "t"'])
        self.assertEqual(rows["top"], ['pocket low.1 {east} "e"', 'pocket low.2 {west} "w"', 'pocket low.3 {top} "t"'])

    def test_quoted(self):
        self.assertEqual([quoted(text) for text in ["", "a b", '"', "\\", '\\"', '"\\', "\\\\", "a\\nb"]],
                         ['""', '"a b"', '"\\""', '"\\\\"', '"\\\\\\""', '"\\"\\\\"', '"\\\\\\\\"', '"a\\\\nb"'])

    def test_random_views_are_read_back(self):
        for seed in range(40):
            engine = diamond()
            calls, _ = history(seed, engine.levels, 40)
            for level, deed, _ in calls:
                engine.perform(level, deed)
            for level in engine.levels.names():
                view = engine.view(level)
                text = format_view(view)
                lines = parse_lines(text)
                self.assertEqual("\n".join([str(line) for line in lines]), text)
                self.assertEqual(lines, self.due(view))
                self.assertEqual([line.node_name for line in lines if line.text is not None], list(view.walk()))

    def due(self, view):
        def below(branches, depth):
            found = []
            for name, kind, text, inner, inside in branches:
                found.append(Line(depth, kind, name, inner, inner is not None and inside is not None, text))
                found.extend(below(inside or (), depth + 1))
            return found
        found = below(view.tree(), 0)
        for name, level, inside in view.attic():
            found.append(Line(0, "loose", name, None, False, None))
            found.extend(below(inside, 1))
        return found


class LineTests(unittest.TestCase):
    def test_attributes(self):
        line = Line(2, "pocket", low(3), "high", True, "x")
        self.assertEqual([line.depth, line.kind, line.node_name, line.inner, line.is_open, line.text],
                         [2, "pocket", low(3), "high", True, "x"])
        named = Line(depth=0, kind="line", node_name=None, inner=None, is_open=False, text="")
        self.assertEqual([named.depth, named.kind, named.node_name, named.inner, named.is_open, named.text],
                         [0, "line", None, None, False, ""])

    def test_what_is_written(self):
        for line, row in [
            (Line(0, "line", low(1), None, False, "x"), 'line low.1 "x"'),
            (Line(3, "line", None, None, False, '"'), '      line - "\\""'),
            (Line(1, "pocket", low(1), "high", True, ""), '  pocket low.1 {high} ""'),
            (Line(0, "pocket", None, "high", False, "a"), 'pocket - [high] "a"'),
            (Line(0, "loose", low(1, "pad") + high(2), None, False, None), "loose low.pad.1+high.2"),
            (Line(0, "loose", low(1), None, False, "x"), 'loose low.1 "x"'),
        ]:
            self.assertEqual(str(line), row)
            self.assertEqual(parse_lines("\n".join(["list - \"\"", "  list - \"\"", "    list - \"\"", row]))[-1], line)

    def test_parts_that_no_text_has(self):
        for line, row in [
            (Line(1, "loose", None, None, False, None), "  loose -"),
            (Line(0, "line", (), None, False, "a\nb"), 'line / "a\nb"'),
            (Line(0, "line", low(1), "high", True, "x" * 300), f'line low.1 {{high}} "{"x" * 300}"'),
            (Line(0, "pocket", low(1), None, False, ""), 'pocket low.1 ""'),
            (Line(0, "No Kind", None, "No Level", False, None), "No Kind - [No Level]"),
        ]:
            self.assertEqual(str(line), row)
            self.assertEqual(line, Line(line.depth, line.kind, line.node_name, line.inner, line.is_open, line.text))

    def test_equality(self):
        parts = [(0, 1), ("line", "pocket"), (low(1), None), (None, "high"), (False, True), ("x", None)]
        lines = list(itertools.product(*parts))
        for at, one in enumerate(lines):
            for place, other in enumerate(lines):
                self.assertEqual(Line(*one) == Line(*other), at == place)
                self.assertEqual(Line(*one) != Line(*other), at != place)
        line = Line(0, "line", low(1), None, False, "x")
        for thing in [None, 'line low.1 "x"', (0, "line", low(1), None, False, "x"), 0, []]:
            self.assertFalse(line == thing)


class ParseTests(unittest.TestCase):
    def wrong(self, text):
        """Returns the value of the error that a text raises, or "none"."""
        try:
            parse_lines(text)
        except InvalidText as error:
            return error.value
        return "none"

    def test_the_empty_text(self):
        self.assertEqual(parse_lines(""), [])

    def test_what_is_no_string(self):
        for thing in [None, 0, True, b"", b'line - ""', (), [], ['line - ""'], {}, Line(0, "line", None, None, False, "")]:
            with self.assertRaises(InvalidText) as caught:
                parse_lines(thing)
            self.assertIsNone(caught.exception.value)

    def test_lines_of_each_form(self):
        rows = ['line low.1 ""', 'a - "x y"', 'pocket - [high] ""', 'pocket low.1+high.pad.2 {high} "a"', "loose low.1",
                'loose - "x"', 'loose low.1 " "', 'eightsig a.1000000000000000000 "~"', 'pocket a.b.1 {pocket} ""']
        for row in rows:
            self.assertEqual([str(line) for line in parse_lines(row)], [row])
            if row != "loose low.1":
                self.assertEqual([str(line) for line in parse_lines('line - ""\n  ' + row)], ['line - ""', "  " + row])

    def test_lines_of_no_form(self):
        for row in [
            " ", "  ", "line", "line ", 'line ""', "line low.1", "line low.1 ", 'line low.1 x', 'line low.1 "', '-',
            'line low.1 "x', 'line low.1 x"', 'line low.1 "x" ', 'line low.1  "x"', 'line  low.1 "x"', 'line low.1 "x"y',
            'line low.1 "x""', 'line low.1 """', 'line low.1 "\\"', 'line low.1 "\\x"', 'line low.1 "\\\\\\"',
            'line low.1 "a"b"', 'line low.1 "\t"', 'line low.1 "\x7f"', 'line low.1 "\xe9"', "line low.1 'x'",
            'line low.1 {high} "x"', 'line low.1 [high] "x"', 'line / "x"', 'line low "x"', 'line low.01 "x"',
            'line low.0 "x"', 'line low.1+ "x"', 'line low..1 "x"', 'line low.1+/ "x"', 'line -+low.1 "x"', 'line -- "x"',
            'Line low.1 "x"', 'ninesigns low.1 "x"', 'line2 low.1 "x"', '"x"', 'line low.1000000000000000001 "x"',
            'pocket low.1 "x"', 'pocket low.1', 'pocket low.1 [high]', 'pocket low.1 {high}', 'pocket low.1 (high) "x"',
            'pocket low.1 [high} "x"', 'pocket low.1 {high] "x"', 'pocket low.1 high "x"', 'pocket low.1 [] "x"',
            'pocket low.1 [High] "x"', 'pocket low.1 [ninesigns] "x"', 'pocket low.1 [high]  "x"', 'pocket / [high] "x"',
            'pocket low.1 [high]"x"', 'pocket low.1 [ high] "x"', 'pocket low.1  [high] "x"', 'pocket low.1 [ "x"',
            'pocket low.1 [[high]] "x"', "pocket -", "loose", "loose ", "loose -", "loose /", "loose low", "loose low.1 ",
            "loose  low.1", "loose low.1 low.2", 'loose / "x"', "loose low.1 {high}", "loose low.1 [high] \"x\"",
            "\tline low.1 \"x\"", "line\tlow.1 \"x\"", "line low.1 \"x\"\r", "pocket low.1",
        ]:
            self.assertEqual(self.wrong(row), 0, row)
            self.assertEqual(self.wrong(f'line - ""\n{row}\nline - ""'), 1, row)

    def test_line_feeds(self):
        self.assertEqual(self.wrong("\n"), 0)
        self.assertEqual(self.wrong('line - ""\n'), 1)
        self.assertEqual(self.wrong('\nline - ""'), 0)
        self.assertEqual(self.wrong('line - ""\n\nline - ""'), 1)
        self.assertEqual(self.wrong('line - ""\r\nline - ""'), 0)
        self.assertEqual(len(parse_lines('line - ""\nline - ""')), 2)

    def test_depths(self):
        node, pocket, closed, loose = 'line - ""', 'pocket - {high} ""', 'pocket - [high] ""', "loose low.1"
        for ahead, deepest in [(node, 1), (pocket, 1), (closed, 0), (loose, 1)]:
            for depth in range(4):
                # Behind a loose box a node cannot stand at depth 0.
                fine = depth <= deepest and not (ahead == loose and depth == 0)
                self.assertEqual(self.wrong(f"{ahead}\n{'  ' * depth}{node}"), "none" if fine else 1, (ahead, depth))
        for row in (node, pocket, closed):
            self.assertEqual(self.wrong("  " + row), 0)
            self.assertEqual(self.wrong(lines_of(node, "  " + row, "    " + node)), 2 if row == closed else "none")
            self.assertEqual(self.wrong(lines_of(node, "  " + row, "      " + node)), 2)
            self.assertEqual(self.wrong(lines_of(node, "  " + row, "  " + node, node)), "none")
        self.assertEqual([self.wrong("  " + loose), self.wrong(lines_of(node, "  " + loose))], [0, 1])
        for blanks in (1, 3):
            self.assertEqual(self.wrong(lines_of(node, " " * blanks + node)), 1)
        self.assertEqual(self.wrong(" " + node), 0)

    def test_nodes_behind_loose_boxes(self):
        self.assertEqual(self.wrong(lines_of("loose low.1", "loose low.2", '  line - ""')), "none")
        self.assertEqual(self.wrong(lines_of("loose low.1", '  line - ""', '    line - ""', '  line - ""')), "none")
        self.assertEqual(self.wrong(lines_of("loose low.1", '  line - ""', 'line - ""')), 2)
        self.assertEqual(self.wrong(lines_of('loose - "x"', 'line - ""')), "none")
        self.assertEqual(self.wrong(lines_of("loose low.1", '    line - ""')), 1)
        self.assertEqual(self.wrong(lines_of("loose low.1", '  pocket - [high] ""', '    line - ""')), 2)
        self.assertEqual(self.wrong(lines_of("loose low.2", "loose low.1", "loose low.1")), "none")

    def test_lengths(self):
        for sign, written in [("x", "x"), ('"', '\\"'), ("\\", "\\\\")]:
            self.assertEqual(parse_lines(f'line - "{written * 200}"')[0].text, sign * 200)
            self.assertEqual(self.wrong(f'line - ""\nline - "{written * 201}"'), 1)

    def test_the_first_wrong_line_counts(self):
        bad, deep, good = "no", '      line - ""', 'line - ""'
        self.assertEqual(self.wrong(lines_of(good, bad, deep)), 1)
        self.assertEqual(self.wrong(lines_of(good, deep, bad)), 1)
        self.assertEqual(self.wrong(lines_of(good, good, "loose low.1", good, bad)), 3)
        self.assertEqual(self.wrong(lines_of("  " + good, bad)), 0)

    def test_deep_texts(self):
        text = lines_of(*[f"{'  ' * depth}line low.{depth + 1} \"\"" for depth in range(100)])
        lines = parse_lines(text)
        self.assertEqual([line.depth for line in lines], list(range(100)))
        self.assertEqual("\n".join([str(line) for line in lines]), text)


if __name__ == "__main__":
    unittest.main()
