"""The examples of the document, as they stand in it."""

import doctest
import unittest

EXAMPLES = {
    5: r'''
>>> from maskededits.levels import Levels
>>> levels = Levels(["open", "red", "blue", "top"], [("red", "top"), ("blue", "top")])
>>> [levels.leq("open", "blue"), levels.above("top", "red"), levels.downs("red"), levels.meet("red", "blue"), levels.join("red", "blue")]
[True, True, ['open', 'red'], 'open', 'top']
''',
    6: r'''
>>> from maskededits.names import name_text, parse_name
>>> [name_text((("open", "", 3), ("red", "pad", 12))), parse_name("open.3"), parse_name("/")]
['open.3+red.pad.12', (('open', '', 3),), ()]
''',
}


class ExampleTests(unittest.TestCase):
    def test_examples(self):
        for number, source in EXAMPLES.items():
            test = doctest.DocTestParser().get_doctest(source, {}, f"[{number}]", None, 0)
            told = []
            result = doctest.DocTestRunner(verbose=False).run(test, out=told.append)
            self.assertEqual(result.failed, 0, "".join(told))
            self.assertGreater(result.attempted, 0)


if __name__ == "__main__":
    unittest.main()
