"""Tests that what has landed of the interface stands where and as it must."""

import ast
import inspect
import os
import unittest

import maskededits.engine
import maskededits.levels
import maskededits.names
import maskededits.running
import maskededits.syntax
import maskededits.views

ROOT = os.path.dirname(os.path.dirname(os.path.abspath(__file__)))
FUNCTIONS = {
    "levels": {"is_word": ["thing"]},
    "names": {"is_mark": ["thing"], "is_name": ["thing"], "name_text": ["name"], "parse_name": ["text"]},
    "running": {"run_script": ["script", "desk", "steps"]},
}
CLASSES = {
    "levels": {"Levels": {
        "__init__": ["names", "pairs"], "least": [], "names": [], "__len__": [], "check": ["level"],
        "leq": ["one", "other"], "above": ["one", "other"], "downs": ["level"], "ups": ["level"],
        "meet": ["one", "other"], "join": ["one", "other"], "__eq__": ["other"]}},
    "engine": {
        "Engine": {
            "__init__": ["levels", "limit"], "perform": ["level", "deed", "source", "mark"], "clock": ["level"],
            "log": ["level"], "room": ["level"], "twin": [], "view": ["level"], "state": ["level"]},
        "Desk": {"__init__": ["engine", "level"], "view": [], "deed": ["deed"], "twin": []}},
    "views": {"View": {
        "__contains__": ["name"], "__getitem__": ["name"], "holds": ["name"], "path": ["name"], "__len__": [],
        "tree": [], "attic": [], "walk": [], "__and__": ["other"], "__or__": ["other"], "__eq__": ["other"]}},
    "syntax": {"Script": {
        "read": ["text"], "__str__": [], "__eq__": ["other"], "__add__": ["other"], "__len__": [], "call_words": [],
        "__contains__": ["word"]}},
}


def tree_of(module):
    with open(os.path.join(ROOT, "maskededits", module + ".py"), encoding="utf-8") as file:
        return ast.parse(file.read())


def parameters(node):
    """Returns the names of the parameters of a function, without the first one of a method."""
    names = [each.arg for each in node.args.args + node.args.kwonlyargs]
    return names[1:] if names and names[0] == "self" else names


class InterfaceTests(unittest.TestCase):
    def test_functions_are_defined_in_their_files(self):
        for module, functions in FUNCTIONS.items():
            found = {node.name: node for node in tree_of(module).body if isinstance(node, ast.FunctionDef)}
            for name, words in functions.items():
                self.assertEqual(parameters(found[name]), words, name)

    def test_classes_and_their_methods_are_defined_in_their_files(self):
        for module, classes in CLASSES.items():
            found = {node.name: node for node in tree_of(module).body if isinstance(node, ast.ClassDef)}
            for name, methods in classes.items():
                own = {node.name: node for node in found[name].body if isinstance(node, ast.FunctionDef)}
                for method, words in methods.items():
                    self.assertEqual(parameters(own[method]), words, (name, method))

    def test_defaults_and_stars(self):
        perform = inspect.signature(maskededits.engine.Engine.perform).parameters
        self.assertEqual([perform["source"].default, perform["mark"].default], ["", None])
        limit = inspect.signature(maskededits.engine.Engine).parameters["limit"]
        self.assertEqual([limit.default, limit.kind], [40, inspect.Parameter.KEYWORD_ONLY])
        self.assertEqual(inspect.signature(maskededits.running.run_script).parameters["steps"].default, 400)
        self.assertEqual(inspect.signature(maskededits.levels.Levels).parameters["pairs"].default, ())

    def test_arguments_by_name(self):
        levels = maskededits.levels.Levels(names=["low", "high"], pairs=())
        engine = maskededits.engine.Engine(levels=levels, limit=3)
        engine.perform(level="low", deed=("box", "high"), source="", mark=None)
        desk = maskededits.engine.Desk(engine=engine, level="high")
        desk.deed(deed=("insert", (("low", "", 1),), 0, "line", ""))
        script = maskededits.syntax.Script.read(text="tell 1;")
        answer, behind = maskededits.running.run_script(script=script, desk=desk, steps=2)
        self.assertEqual(answer, ("told", (("number", 1),)))
        view = behind.view()
        self.assertEqual(view.holds(name=(("low", "", 1),)), ((("high", "", 1),),))
        self.assertEqual(len(view.path(name=(("high", "", 1),))), 2)
        self.assertEqual([engine.clock(level="low"), engine.room(level="low"), len(engine.log(level="low"))], [1, 3, 1])
        self.assertEqual(engine.view(level="low"), engine.twin().view("low"))
        self.assertEqual(engine.state(level="low"), engine.twin().state("low"))
        self.assertEqual([levels.leq(one="low", other="high"), levels.above(one="low", other="high")], [True, False])
        self.assertEqual([levels.meet(one="low", other="high"), levels.join(one="low", other="high")], ["low", "high"])
        self.assertEqual([levels.downs(level="high"), levels.ups(level="high")], [["low", "high"], ["high"]])
        self.assertIsNone(levels.check(level="low"))
        name = maskededits.names.parse_name(text="low.1")
        self.assertEqual(maskededits.names.name_text(name=name), "low.1")
        self.assertTrue(maskededits.names.is_name(thing=name) and maskededits.names.is_mark(thing=name[0]))
        self.assertTrue(maskededits.levels.is_word(thing="low"))


if __name__ == "__main__":
    unittest.main()
