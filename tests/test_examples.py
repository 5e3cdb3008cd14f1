"""The examples of the document, as they stand in it."""

import doctest
import os
import re
import unittest

DOCUMENT = os.path.join(os.path.dirname(os.path.abspath(__file__)), "..", "..", "shared", "DOC.md")
EXAMPLES = {
    5: r'''
>>> from maskededits.levels import Levels
>>> levels = Levels(["open", "red", "blue", "top"], [("red", "top"), ("blue", "top")])
>>> [levels.leq("open", "blue"), levels.above("top", "red"), levels.downs("red"), levels.meet("red", "blue"), levels.join("red", "blue")]
[True, True, ['open', 'red'], 'open', 'top']
''',
    6: r'''
>>> from maskededits.names import name_text, parse_name
>>> [name_text((("open", "", 3), ("red", "pad", 12))), parse_name("open.3"), parse_name("/")]
['open.3+red.pad.12', (('open', '', 3),), ()]
''',
    7: r'''
>>> from maskededits.engine import Engine
>>> from maskededits.levels import Levels
>>> engine = Engine(Levels(["low", "high"]))
>>> told = [engine.perform("low", ("pocket", (), 0, "high", "plans")), engine.perform("high", ("insert", (("low", "", 1),), 0, "line", "secret"))]
>>> [told, engine.perform("low", ("change", (("high", "", 1),), "x")), engine.perform("low", ("delete", (("low", "", 1),)))]
[[('told', (('low', '', 1),)), ('told', (('high', '', 1),))], ('refused', 'name', (('high', '', 1),)), ('told', 1)]
''',
    10: r'''
>>> from maskededits.engine import Engine
>>> from maskededits.levels import Levels
>>> engine = Engine(Levels(["low", "high"]))
>>> done = [engine.perform("low", ("pocket", (), 0, "high", "plans")), engine.perform("high", ("insert", (("low", "", 1),), 0, "line", "secret")), engine.perform("low", ("delete", (("low", "", 1),)))]
>>> [engine.view("low").tree(), engine.view("high").attic(), len(engine.view("high"))]
[(), (((('low', '', 1),), 'high', (((('high', '', 1),), 'line', 'secret', None, ()),)),), 1]
''',
    11: r'''
>>> from maskededits.engine import Engine
>>> from maskededits.levels import Levels
>>> from maskededits.queries import from_root, of_kind, size_below, with_text
>>> engine = Engine(Levels(["low", "high"]))
>>> done = [engine.perform("low", ("insert", (), 0, "list", "plans")), engine.perform("low", ("pocket", (), 1, "high", "notes")), engine.perform("high", ("insert", (("low", "", 2),), 0, "item", "our plans"))]
>>> low, high = engine.view("low"), engine.view("high")
>>> [len((from_root() // with_text("plans"))(low)), len((from_root() // with_text("plans"))(high)), size_below(low, ()), size_below(high, ()), (from_root() >> ~of_kind("list"))(low)]
[1, 2, 2, 3, [(('low', '', 2),)]]
''',
    13: r'''
>>> from maskededits.engine import Engine
>>> from maskededits.levels import Levels
>>> from maskededits.moments import Moment, Past
>>> engine = Engine(Levels(["low", "east", "west", "top"], [("east", "top"), ("west", "top")]))
>>> done = [engine.perform("low", ("pocket", (), 0, "east", "e")), engine.perform("low", ("pocket", (), 0, "west", "w")), engine.perform("east", ("insert", (("low", "", 1),), 0, "item", "x")), engine.perform("west", ("insert", (("low", "", 2),), 0, "item", "y"))]
>>> past = Past(engine, "top")
>>> [Moment({"low": 2, "west": 1}) in past, Moment({"low": 1, "west": 1}) in past, [moment.deeds for moment in past.cuts()], past.first_with("west", 1).by_level()]
[True, False, [0, 1, 2, 3, 4], {'low': 2, 'west': 1}]
''',
    14: r'''
>>> from maskededits.engine import Engine
>>> from maskededits.levels import Levels
>>> from maskededits.texts import format_view, parse_lines
>>> engine = Engine(Levels(["low", "high"]))
>>> done = [engine.perform("low", ("pocket", (), 0, "high", "notes")), engine.perform("high", ("insert", (("low", "", 1),), 0, "item", 'say "no"'))]
>>> [format_view(engine.view("low")), format_view(engine.view("high")), str(parse_lines("item - \"x\"")[0])]
['pocket low.1 [high] "notes"', 'pocket low.1 {high} "notes"\n  item high.1 "say \\"no\\""', 'item - "x"']
''',
    16: r'''
>>> from maskededits.edits import Edit
>>> from maskededits.levels import Levels
>>> from maskededits.server import Server
>>> from maskededits.texts import format_view
>>> server = Server(Levels(["low", "high"]), {"ann": ["low", "high"]})
>>> low, high = server.session("ann", "low"), server.session("ann", "high")
>>> done = [low.do("insert", (), 0, "list", "plans"), low.do("pocket", (), 1, "high", "notes"), high.do("insert", (("low", "", 2),), 0, "item", "ours")]
>>> text = 'list low.1 "new"\n  item - "milk"\n  pocket low.2 [high] "notes"\npocket low.2 [high] "notes"'
>>> edit = Edit(low.view(), "low", text)
>>> [edit.kinds(), edit.moves, len(low.edit(text)), format_view(high.view())]
[['change', 'insert', 'move', 'copy'], 1, 4, 'list low.1 "new"\n  item low.3 "milk"\n  pocket low.2 {high} "notes"\n    item high.1 "ours"\npocket low.2+low.4 {high} "notes"\n  item high.1+low.4 "ours"']
''',
    27: r'''
>>> from maskededits.engine import Engine
>>> from maskededits.levels import Levels
>>> engine = Engine(Levels(["low", "high"]))
>>> done = [engine.perform("low", ("pocket", (), 0, "high", "plans")), engine.perform("high", ("insert", (("low", "", 1),), 0, "line", "secret"))]
>>> [engine.perform("low", ("script", text)) for text in ['for n in find("pocket") { tell text(n); } tell size(kids(node("/")));', 'insert(node("/"), 0, "line", "a"); tell 1 + "b";', "tell 1"]]
[('told', (('text', 'plans'), ('number', 1))), ('refused', 'script', ('kind', 11, '+')), ('refused', 'script', ('syntax', 6))]
''',
    35: r'''
>>> from maskededits.leaks import shortest_finding
>>> from maskededits.levels import Levels
>>> menu = (("low", ("clock",)), ("high", ("script", "")))
>>> [shortest_finding(Levels(["low", "high"]), menu, 3, "clock"), shortest_finding(Levels(["low", "high"]), menu, 3, "")]
[((('high', ('script', '')), ('low', ('clock',))), (1, 'low', ('told', 1), ('told', 0))), None]
''',
    36: r'''
>>> from maskededits.levels import Levels
>>> from maskededits.server import Server
>>> server = Server(Levels(["low", "high"]), {"ann": ["low", "high"], "bob": ["high"]})
>>> low, ann, bob = server.session("ann", "low"), server.session("ann", "high"), server.session("bob", "high")
>>> pocket = low.do("pocket", (), 0, "high", "plans")
>>> note = ann.do("insert", pocket, 0, "line", "lunch at one")
>>> number = ann.offer(note, "low", (), 1)
>>> [bob.approve(number), len(low.view()), server.log()[-1][:2]]
[(('low', '', 2),), 2, ('low', ('typed', ('line', 'lunch at one', ()), (), 1))]
''',
    37: r'''
>>> from maskededits.console import Console
>>> console = Console()
>>> lines = ["begin low high / ann", "as ann low", "pocket / 0 high plans", "as ann high", "insert low.1 0 line secret", "as ann low", "delete low.1", "undo", "show", "wrong"]
>>> [console.run(line) for line in lines][2:]
['low.1', 'ok', 'high.1', 'ok', '1', 'delete', 'pocket low.1 [high] "plans"', '-']
''',
}


class ExampleTests(unittest.TestCase):
    def test_examples(self):
        for number, source in EXAMPLES.items():
            test = doctest.DocTestParser().get_doctest(source, {}, f"[{number}]", None, 0)
            told = []
            result = doctest.DocTestRunner(verbose=False).run(test, out=told.append)
            self.assertEqual(result.failed, 0, "".join(told))
            self.assertGreater(result.attempted, 0)

    def test_these_are_the_examples_of_the_document(self):
        if not os.path.exists(DOCUMENT):
            self.skipTest("the document does not stand beside the project")
        with open(DOCUMENT, encoding="utf-8") as file:
            found = re.findall(r"```\n(>>>.*?)```", file.read(), re.DOTALL)
        self.assertEqual(found, [source[1:] for source in EXAMPLES.values()])


if __name__ == "__main__":
    unittest.main()
