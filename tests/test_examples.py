"""The examples of the document, as they stand in it."""

import doctest
import unittest

EXAMPLES = {
    5: r'''
>>> from maskededits.levels import Levels
>>> levels = Levels(["open", "red", "blue", "top"], [("red", "top"), ("blue", "top")])
>>> [levels.leq("open", "blue"), levels.above("top", "red"), levels.downs("red"), levels.meet("red", "blue"), levels.join("red", "blue")]
[True, True, ['open', 'red'], 'open', 'top']
''',
    6: r'''
>>> from maskededits.names import name_text, parse_name
>>> [name_text((("open", "", 3), ("red", "pad", 12))), parse_name("open.3"), parse_name("/")]
['open.3+red.pad.12', (('open', '', 3),), ()]
''',
    7: r'''
>>> from maskededits.engine import Engine
>>> from maskededits.levels import Levels
>>> engine = Engine(Levels(["low", "high"]))
>>> told = [engine.perform("low", ("pocket", (), 0, "high", "plans")), engine.perform("high", ("insert", (("low", "", 1),), 0, "line", "secret"))]
>>> [told, engine.perform("low", ("change", (("high", "", 1),), "x")), engine.perform("low", ("delete", (("low", "", 1),)))]
[[('told', (('low', '', 1),)), ('told', (('high', '', 1),))], ('refused', 'name', (('high', '', 1),)), ('told', 1)]
''',
    10: r'''
>>> from maskededits.engine import Engine
>>> from maskededits.levels import Levels
>>> engine = Engine(Levels(["low", "high"]))
>>> done = [engine.perform("low", ("pocket", (), 0, "high", "plans")), engine.perform("high", ("insert", (("low", "", 1),), 0, "line", "secret")), engine.perform("low", ("delete", (("low", "", 1),)))]
>>> [engine.view("low").tree(), engine.view("high").attic(), len(engine.view("high"))]
[(), (((('low', '', 1),), 'high', (((('high', '', 1),), 'line', 'secret', None, ()),)),), 1]
''',
    27: r'''
>>> from maskededits.engine import Engine
>>> from maskededits.levels import Levels
>>> engine = Engine(Levels(["low", "high"]))
>>> done = [engine.perform("low", ("pocket", (), 0, "high", "plans")), engine.perform("high", ("insert", (("low", "", 1),), 0, "line", "secret"))]
>>> [engine.perform("low", ("script", text)) for text in ['for n in find("pocket") { tell text(n); } tell size(kids(node("/")));', 'insert(node("/"), 0, "line", "a"); tell 1 + "b";', "tell 1"]]
[('told', (('text', 'plans'), ('number', 1))), ('refused', 'script', ('kind', 11, '+')), ('refused', 'script', ('syntax', 6))]
''',
}


class ExampleTests(unittest.TestCase):
    def test_examples(self):
        for number, source in EXAMPLES.items():
            test = doctest.DocTestParser().get_doctest(source, {}, f"[{number}]", None, 0)
            told = []
            result = doctest.DocTestRunner(verbose=False).run(test, out=told.append)
            self.assertEqual(result.failed, 0, "".join(told))
            self.assertGreater(result.attempted, 0)


if __name__ == "__main__":
    unittest.main()
