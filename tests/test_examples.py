"""The examples of the document, as they stand in it."""

import doctest
import unittest

EXAMPLES = {
    5: r'''
>>> from maskededits.levels import Levels
>>> levels = Levels(["open", "red", "blue", "top"], [("red", "top"), ("blue", "top")])
>>> [levels.leq("open", "blue"), levels.above("top", "red"), levels.downs("red"), levels.meet("red", "blue"), levels.join("red", "blue")]
[True, True, ['open', 'red'], 'open', 'top']
''',
    6: r'''
>>> from maskededits.names import name_text, parse_name
>>> [name_text((("open", "", 3), ("red", "pad", 12))), parse_name("open.3"), parse_name("/")]
['open.3+red.pad.12', (('open', '', 3),), ()]
''',
    7: r'''
>>> from maskededits.engine import Engine
>>> from maskededits.levels import Levels
>>> engine = Engine(Levels(["low", "high"]))
>>> told = [engine.perform("low", ("pocket", (), 0, "high", "plans")), engine.perform("high", ("insert", (("low", "", 1),), 0, "line", "secret"))]
>>> [told, engine.perform("low", ("change", (("high", "", 1),), "x")), engine.perform("low", ("delete", (("low", "", 1),)))]
[[('told', (('low', '', 1),)), ('told', (('high', '', 1),))], ('refused', 'name', (('high', '', 1),)), ('told', 1)]
''',
    10: r'''
>>> from maskededits.engine import Engine
>>> from maskededits.levels import Levels
>>> engine = Engine(Levels(["low", "high"]))
>>> done = [engine.perform("low", ("pocket", (), 0, "high", "plans")), engine.perform("high", ("insert", (("low", "", 1),), 0, "line", "secret")), engine.perform("low", ("delete", (("low", "", 1),)))]
>>> [engine.view("low").tree(), engine.view("high").attic(), len(engine.view("high"))]
[(), (((('low', '', 1),), 'high', (((('high', '', 1),), 'line', 'secret', None, ()),)),), 1]
''',
    11: r'''
>>> from maskededits.engine import Engine
>>> from maskededits.levels import Levels
>>> from maskededits.queries import from_root, of_kind, size_below, with_text
>>> engine = Engine(Levels(["low", "high"]))
>>> done = [engine.perform("low", ("insert", (), 0, "list", "plans")), engine.perform("low", ("pocket", (), 1, "high", "notes")), engine.perform("high", ("insert", (("low", "", 2),), 0, "item", "our plans"))]
>>> low, high = engine.view("low"), engine.view("high")
>>> [len((from_root() // with_text("plans"))(low)), len((from_root() // with_text("plans"))(high)), size_below(low, ()), size_below(high, ()), (from_root() >> ~of_kind("list"))(low)]
[1, 2, 2, 3, [(('low', '', 2),)]]
''',
    13: r'''
>>> from maskededits.engine import Engine
>>> from maskededits.levels import Levels
>>> from maskededits.moments import Moment, Past
>>> engine = Engine(Levels(["low", "east", "west", "top"], [("east", "top"), ("west", "top")]))
>>> done = [engine.perform("low", ("pocket", (), 0, "east", "e")), engine.perform("low", ("pocket", (), 0, "west", "w")), engine.perform("east", ("insert", (("low", "", 1),), 0, "item", "x")), engine.perform("west", ("insert", (("low", "", 2),), 0, "item", "y"))]
>>> past = Past(engine, "top")
>>> [Moment({"low": 2, "west": 1}) in past, Moment({"low": 1, "west": 1}) in past, [moment.deeds for moment in past.cuts()], past.first_with("west", 1).by_level()]
[True, False, [0, 1, 2, 3, 4], {'low': 2, 'west': 1}]
''',
    14: r'''
>>> from maskededits.engine import Engine
>>> from maskededits.levels import Levels
>>> from maskededits.texts import format_view, parse_lines
>>> engine = Engine(Levels(["low", "high"]))
>>> done = [engine.perform("low", ("pocket", (), 0, "high", "notes")), engine.perform("high", ("insert", (("low", "", 1),), 0, "item", 'say "no"'))]
>>> [format_view(engine.view("low")), format_view(engine.view("high")), str(parse_lines("item - \"x\"")[0])]
['pocket low.1 [high] "notes"', 'pocket low.1 {high} "notes"\n  item high.1 "say \\"no\\""', 'item - "x"']
''',
    27: r'''
>>> from maskededits.engine import Engine
>>> from maskededits.levels import Levels
>>> engine = Engine(Levels(["low", "high"]))
>>> done = [engine.perform("low", ("pocket", (), 0, "high", "plans")), engine.perform("high", ("insert", (("low", "", 1),), 0, "line", "secret"))]
>>> [engine.perform("low", ("script", text)) for text in ['for n in find("pocket") { tell text(n); } tell size(kids(node("/")));', 'insert(node("/"), 0, "line", "a"); tell 1 + "b";', "tell 1"]]
[('told', (('text', 'plans'), ('number', 1))), ('refused', 'script', ('kind', 11, '+')), ('refused', 'script', ('syntax', 6))]
''',
}


class ExampleTests(unittest.TestCase):
    def test_examples(self):
        for number, source in EXAMPLES.items():
            test = doctest.DocTestParser().get_doctest(source, {}, f"[{number}]", None, 0)
            told = []
            result = doctest.DocTestRunner(verbose=False).run(test, out=told.append)
            self.assertEqual(result.failed, 0, "".join(told))
            self.assertGreater(result.attempted, 0)


if __name__ == "__main__":
    unittest.main()
