"""Tests that what has landed of the interface stands where and as it must."""

import ast
import inspect
import os
import unittest

import maskededits.checker
import maskededits.console
import maskededits.edits
import maskededits.engine
import maskededits.errors
import maskededits.faults
import maskededits.journals
import maskededits.leaks
import maskededits.levels
import maskededits.losses
import maskededits.moments
import maskededits.names
import maskededits.queries
import maskededits.records
import maskededits.release
import maskededits.replicas
import maskededits.running
import maskededits.server
import maskededits.syntax
import maskededits.texts
import maskededits.views

ROOT = os.path.dirname(os.path.dirname(os.path.abspath(__file__)))
FUNCTIONS = {
    "levels": {"is_word": ["thing"]},
    "names": {"is_mark": ["thing"], "is_name": ["thing"], "name_text": ["name"], "parse_name": ["text"]},
    "running": {"run_script": ["script", "desk", "steps"]},
    "queries": {
        "of_kind": ["word"], "with_text": ["text"], "of_level": ["level"], "closed_pockets": [], "any_node": [],
        "from_root": [], "from_loose": [], "size_below": ["view", "name"], "sorted_by": ["view", "names", "key"],
        "grouped_by": ["view", "names", "key"], "compare_views": ["one", "other"]},
    "texts": {"quoted": ["text"], "format_view": ["view"], "parse_lines": ["text"]},
    "release": {"payload_of": ["view", "name"]},
    "records": {"records_in_order": ["levels", "records"], "played_records": ["levels", "records", "limit"]},
    "replicas": {"base_of": ["engine", "level"]},
    "checker": {
        "answer_to": ["engine", "level", "deed"], "shortened_calls": ["levels", "calls", "level"],
        "answers_to": ["levels", "calls", "fault", "limit"], "first_leak": ["levels", "calls", "fault", "limit"],
        "first_wrong": ["levels", "log", "limit"]},
    "losses": {"first_loss": ["levels", "calls", "fault", "limit"]},
    "faults": {"faulty_engine": ["word", "levels", "limit"]},
    "leaks": {"shortest_finding": ["levels", "menu", "most", "fault", "losses", "limit"]},
}
CLASSES = {
    "levels": {"Levels": {
        "__init__": ["names", "pairs"], "least": [], "names": [], "__len__": [], "check": ["level"],
        "leq": ["one", "other"], "above": ["one", "other"], "downs": ["level"], "ups": ["level"],
        "meet": ["one", "other"], "join": ["one", "other"], "__eq__": ["other"]}},
    "engine": {
        "Engine": {
            "__init__": ["levels", "limit"], "perform": ["level", "deed", "source", "mark"], "clock": ["level"],
            "log": ["level"], "room": ["level"], "twin": [], "view": ["level"], "state": ["level"]},
        "Desk": {"__init__": ["engine", "level"], "view": [], "deed": ["deed"], "twin": []}},
    "views": {"View": {
        "__contains__": ["name"], "__getitem__": ["name"], "holds": ["name"], "path": ["name"], "__len__": [],
        "tree": [], "attic": [], "walk": [], "__and__": ["other"], "__or__": ["other"], "__eq__": ["other"]}},
    "syntax": {"Script": {
        "read": ["text"], "__str__": [], "__eq__": ["other"], "__add__": ["other"], "__len__": [], "call_words": [],
        "__contains__": ["word"]}},
    "queries": {
        "Condition": {"__call__": ["view", "name"], "__and__": ["other"], "__or__": ["other"], "__invert__": [],
                      "__eq__": ["other"]},
        "Path": {"__call__": ["view"], "__rshift__": ["other"], "__floordiv__": ["other"], "__or__": ["other"],
                 "__and__": ["other"], "__sub__": ["other"], "__eq__": ["other"]},
        "Difference": {"gone": [], "new": [], "changed": [], "moved": [], "__bool__": [], "__eq__": ["other"]}},
    "moments": {
        "Moment": {"__init__": ["counts"], "__getitem__": ["level"], "by_level": [], "deeds": [], "__and__": ["other"],
                   "__or__": ["other"], "is_within": ["other"], "__eq__": ["other"]},
        "Past": {"__init__": ["engine", "level"], "start": [], "now": [], "__contains__": ["moment"],
                 "__call__": ["moment"], "records": ["one", "other"], "cuts": [], "first_with": ["level", "number"],
                 "last_without": ["level", "number"], "made": ["name"], "changes": ["one", "other"]}},
    "texts": {"Line": {"__init__": ["depth", "kind", "node_name", "inner", "is_open", "text"], "__str__": [],
                       "__eq__": ["other"]}},
    "edits": {"Edit": {"__init__": ["view", "level", "text"], "__len__": [], "kinds": [], "moves": [],
                       "__call__": ["perform"]}},
    "release": {"Releases": {
        "__init__": ["engine", "rights"], "offer": ["user", "level", "name", "to", "holder", "place"],
        "approve": ["user", "level", "number"], "withdraw": ["user", "level", "number"], "offers": ["user", "level"]}},
    "records": {"Record": {"__init__": ["mark", "stamp", "after", "act", "first"], "__eq__": ["other"]}},
    "replicas": {
        "Copy": {"__init__": ["levels", "base", "level", "source", "limit"], "perform": ["deed"], "records": [],
                 "answer": ["mark"], "view": [], "__contains__": ["mark"], "__len__": [], "merge": ["other"],
                 "joined": ["other"], "twin": [], "__eq__": ["other"]},
        "Home": {"__init__": ["engine", "taken"], "take": ["copy"], "marks": [], "__contains__": ["mark"],
                 "__len__": []}},
    "journals": {"Journals": {
        "__init__": ["levels", "limit"], "of": ["engine"], "write": ["level", "deed", "told"], "journal": ["level"],
        "__len__": [], "write_all": ["rows"], "cut": ["lengths"], "standing": [], "recovered": []}},
    "server": {
        "Server": {"__init__": ["levels", "rights", "limit"], "session": ["user", "level"], "users": ["level"], "log": [],
                   "__len__": []},
        "Session": {"close": [], "__enter__": [], "__exit__": ["kind", "value", "trace"], "call": ["deed"], "do": [],
                    "view": [], "past": [], "edit": ["text"], "offer": ["name", "to", "holder", "place"],
                    "approve": ["number"], "withdraw": ["number"], "open_offers": []}},
    "console": {"Console": {"__init__": [], "run": ["line"]}},
}
PROPERTIES = [
    (maskededits.levels.Levels, "least"), (maskededits.queries.Difference, "gone"), (maskededits.queries.Difference, "new"),
    (maskededits.queries.Difference, "changed"), (maskededits.queries.Difference, "moved"),
    (maskededits.moments.Moment, "deeds"), (maskededits.moments.Past, "start"), (maskededits.moments.Past, "now"),
    (maskededits.edits.Edit, "moves"),
]
GENERATORS = [
    maskededits.views.View.walk, maskededits.syntax.Script.call_words, maskededits.moments.Past.records,
    maskededits.moments.Past.cuts, maskededits.release.Releases.offers, maskededits.replicas.Copy.records,
    maskededits.journals.Journals.journal, maskededits.server.Server.users,
]


def tree_of(module):
    with open(os.path.join(ROOT, "maskededits", module + ".py"), encoding="utf-8") as file:
        return ast.parse(file.read())


def parameters(node):
    """Returns the names of the parameters of a function, without the first one of a method."""
    names = [each.arg for each in node.args.args + node.args.kwonlyargs]
    return names[1:] if names and names[0] in ("self", "cls") else names


class InterfaceTests(unittest.TestCase):
    def test_functions_are_defined_in_their_files(self):
        for module, functions in FUNCTIONS.items():
            found = {node.name: node for node in tree_of(module).body if isinstance(node, ast.FunctionDef)}
            for name, words in functions.items():
                self.assertEqual(parameters(found[name]), words, name)

    def test_classes_and_their_methods_are_defined_in_their_files(self):
        for module, classes in CLASSES.items():
            found = {node.name: node for node in tree_of(module).body if isinstance(node, ast.ClassDef)}
            for name, methods in classes.items():
                own = {node.name: node for node in found[name].body if isinstance(node, ast.FunctionDef)}
                for method, words in methods.items():
                    self.assertEqual(parameters(own[method]), words, (name, method))

    def test_defaults_and_stars(self):
        perform = inspect.signature(maskededits.engine.Engine.perform).parameters
        self.assertEqual([perform["source"].default, perform["mark"].default], ["", None])
        limit = inspect.signature(maskededits.engine.Engine).parameters["limit"]
        self.assertEqual([limit.default, limit.kind], [40, inspect.Parameter.KEYWORD_ONLY])
        self.assertEqual(inspect.signature(maskededits.running.run_script).parameters["steps"].default, 400)
        self.assertEqual(inspect.signature(maskededits.levels.Levels).parameters["pairs"].default, ())
        for made, word, default in [(maskededits.replicas.Copy, "limit", 40), (maskededits.replicas.Home, "taken", ()),
                                    (maskededits.records.played_records, "limit", 40), (maskededits.journals.Journals, "limit", 40),
                                    (maskededits.leaks.shortest_finding, "losses", False), (maskededits.leaks.shortest_finding, "limit", 40),
                                    (maskededits.server.Server, "limit", 40)]:
            found = inspect.signature(made).parameters[word]
            self.assertEqual([found.default, found.kind], [default, inspect.Parameter.KEYWORD_ONLY])
        for made in (maskededits.checker.answers_to, maskededits.checker.first_leak, maskededits.losses.first_loss,
                     maskededits.checker.first_wrong, maskededits.faults.faulty_engine):
            found = inspect.signature(made).parameters
            self.assertEqual([found["limit"].default, found["limit"].kind], [40, inspect.Parameter.POSITIONAL_OR_KEYWORD])
            if "fault" in found:
                self.assertEqual(found["fault"].default, "")

    def test_properties_and_what_yields(self):
        for owner, word in PROPERTIES:
            self.assertIsInstance(vars(owner)[word], property)
        for method in GENERATORS:
            self.assertTrue(inspect.isgeneratorfunction(method), method)

    def test_arguments_by_name(self):
        levels = maskededits.levels.Levels(names=["low", "high"], pairs=())
        engine = maskededits.engine.Engine(levels=levels, limit=3)
        engine.perform(level="low", deed=("box", "high"), source="", mark=None)
        desk = maskededits.engine.Desk(engine=engine, level="high")
        desk.deed(deed=("insert", (("low", "", 1),), 0, "line", ""))
        script = maskededits.syntax.Script.read(text="tell 1;")
        answer, behind = maskededits.running.run_script(script=script, desk=desk, steps=2)
        self.assertEqual(answer, ("told", (("number", 1),)))
        view = behind.view()
        self.assertEqual(view.holds(name=(("low", "", 1),)), ((("high", "", 1),),))
        self.assertEqual(len(view.path(name=(("high", "", 1),))), 2)
        self.assertEqual([engine.clock(level="low"), engine.room(level="low"), len(engine.log(level="low"))], [1, 3, 1])
        self.assertEqual(engine.view(level="low"), engine.twin().view("low"))
        self.assertEqual(engine.state(level="low"), engine.twin().state("low"))
        self.assertEqual([levels.leq(one="low", other="high"), levels.above(one="low", other="high")], [True, False])
        self.assertEqual([levels.meet(one="low", other="high"), levels.join(one="low", other="high")], ["low", "high"])
        self.assertEqual([levels.downs(level="high"), levels.ups(level="high")], [["low", "high"], ["high"]])
        self.assertIsNone(levels.check(level="low"))
        name = maskededits.names.parse_name(text="low.1")
        self.assertEqual(maskededits.names.name_text(name=name), "low.1")
        self.assertTrue(maskededits.names.is_name(thing=name) and maskededits.names.is_mark(thing=name[0]))
        self.assertTrue(maskededits.levels.is_word(thing="low"))

    def test_arguments_of_later_stages_by_name(self):
        levels = maskededits.levels.Levels(["low", "high"])
        engine = maskededits.engine.Engine(levels)
        engine.perform("low", ("insert", (), 0, "line", "a"))
        view, name = engine.view("low"), (("low", "", 1),)
        queries, release, records = maskededits.queries, maskededits.release, maskededits.records
        conditions = [queries.of_kind(word="line"), queries.with_text(text="a"), queries.of_level(level="low")]
        self.assertEqual([each(view=view, name=name) for each in conditions], [True] * 3)
        self.assertEqual(queries.from_root()(view=view), [()])
        self.assertEqual(queries.size_below(view=view, name=()), 1)
        self.assertEqual(queries.sorted_by(view=view, names=[name], key="size"), [name])
        self.assertEqual(queries.grouped_by(view=view, names=[name], key="size"), {1: [name]})
        self.assertFalse(queries.compare_views(one=view, other=view))
        past, moment = maskededits.moments.Past(engine=engine, level="low"), maskededits.moments.Moment(counts={"low": 1})
        self.assertEqual([past.first_with(level="low", number=1), past.made(name=name)], [moment, moment])
        self.assertEqual(past.last_without(level="low", number=1), past.start)
        self.assertEqual([len(list(past.records(one=past.start, other=moment))), moment.is_within(other=moment)], [1, True])
        self.assertEqual(past.changes(one=past.start, other=moment).new, [name])
        self.assertEqual(past(moment=moment), view)
        text = maskededits.texts.format_view(view=view)
        self.assertEqual(str(maskededits.texts.parse_lines(text=text)[0]), text)
        self.assertEqual(maskededits.texts.quoted(text="a"), '"a"')
        edit = maskededits.edits.Edit(view=view, level="low", text=text)
        self.assertEqual(edit(perform=print), [])
        self.assertEqual(release.payload_of(view=view, name=name), ("line", "a", ()))
        releases = release.Releases(engine=engine, rights={"ann": ["low"]})
        with self.assertRaises(maskededits.errors.Refused):
            releases.offer(user="ann", level="low", name=name, to="low", holder=(), place=0)
        for act in (releases.approve, releases.withdraw):
            with self.assertRaises(maskededits.errors.NoOffer):
                act(user="ann", level="low", number=1)
        self.assertEqual(list(releases.offers(user="ann", level="low")), [])
        self.assertEqual(records.records_in_order(levels=levels, records=[]), [])
        self.assertEqual(records.played_records(levels=levels, records=[], limit=3)[1], {})
        base = maskededits.replicas.base_of(engine=engine, level="low")
        copy = maskededits.replicas.Copy(levels=levels, base=base, level="low", source="pad", limit=40)
        copy.perform(deed=("delete", name))
        self.assertEqual([copy.answer(mark=("low", "pad", 1)), copy.merge(other=copy), copy.joined(other=copy) == copy],
                         [("told", 1), [], True])
        self.assertEqual(len(maskededits.replicas.Home(engine=engine, taken=()).take(copy=copy)), 1)

    def test_arguments_of_the_last_stages_by_name(self):
        levels = maskededits.levels.Levels(["low", "high"])
        checker, line = maskededits.checker, ("insert", (), 0, "line", "a")
        engine = maskededits.faults.faulty_engine(word="clock", levels=levels, limit=3)
        self.assertEqual(checker.answer_to(engine=engine, level="low", deed=("room",)), ("told", 3))
        calls = [("low", line)]
        self.assertEqual(checker.shortened_calls(levels=levels, calls=calls, level="high"), [0])
        self.assertEqual(checker.answers_to(levels=levels, calls=calls, fault="", limit=1), [("told", (("low", "", 1),))])
        self.assertIsNone(checker.first_leak(levels=levels, calls=calls, fault="", limit=1))
        self.assertIsNone(checker.first_wrong(levels=levels, log=[], limit=1))
        self.assertIsNone(maskededits.losses.first_loss(levels=levels, calls=calls, fault="", limit=1))
        self.assertIsNone(maskededits.leaks.shortest_finding(levels=levels, menu=tuple(calls), most=1, fault="", losses=True, limit=1))
        engine.perform("low", line)
        journals = maskededits.journals.Journals.of(engine=engine)
        self.assertEqual([journals.cut(lengths={"low": 1}).standing(), len(list(journals.journal(level="low")))], [{"low": 1, "high": 0}, 1])
        other = maskededits.journals.Journals(levels=levels, limit=3)
        other.write(level="low", deed=line, told=(("low", "", 1),))
        other.write_all(rows=[])
        self.assertEqual(len(other), 1)
        server = maskededits.server.Server(levels=levels, rights={"ann": ["high"]}, limit=4)
        session = server.session(user="ann", level="high")
        self.assertEqual([session.call(deed=("room",)), list(server.users(level="high"))], [("told", 4), ["ann"]])
        self.assertEqual(session.edit(text=""), [])
        for act, error in [(lambda: session.offer(name=(), to="low", holder=(), place=0), maskededits.errors.Refused),
                           (lambda: session.approve(number=1), maskededits.errors.NoOffer),
                           (lambda: session.withdraw(number=1), maskededits.errors.NoOffer)]:
            with self.assertRaises(error):
                act()
        self.assertEqual(maskededits.console.Console().run(line="begin low / ann"), "ok")

    def test_attributes_are_set_when_the_object_is_created(self):
        levels = maskededits.levels.Levels(["low", "high"])
        server = maskededits.server.Server(levels, {"ann": ["low"]})
        session = server.session("ann", "low")
        self.assertEqual([session.user, session.level, session.is_open], ["ann", "low", True])
        self.assertIsInstance(server.engine, maskededits.engine.Engine)
        self.assertEqual(server.engine.view("low").loose, {})
        record = maskededits.records.Record(mark=1, stamp=2, after=3, act=4, first=5)
        self.assertEqual([record.mark, record.stamp, record.after, record.act, record.first], [1, 2, 3, 4, 5])

    def test_errors_stand_where_they_should(self):
        errors = maskededits.errors
        under = {ValueError: ["MaskError"], KeyError: ["NotSeen", "NoOffer"], RuntimeError: ["Refused", "NoRight", "SameUser", "Closed", "NoServer"],
                 errors.MaskError: ["InvalidLevels", "InvalidLevel", "InvalidName", "InvalidNumber", "InvalidText", "InvalidQuery", "InvalidView",
                                    "InvalidMoment", "InvalidEdit", "BadRecords", "InvalidRights", "InvalidLine", "NoFault", "InvalidScript"]}
        for base, words in under.items():
            for word in words:
                self.assertEqual(getattr(errors, word).__bases__, (base,), word)


if __name__ == "__main__":
    unittest.main()
