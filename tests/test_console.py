"""Tests of the console ([37])."""

import unittest

from helpers import high, low
from maskededits.console import Console
from maskededits.errors import InvalidLevel, InvalidLine, NoOffer, NoRight, NoServer, Refused, SameUser

BEGIN = "begin low high / ann bob"
# For each form a line that may be run behind those of filled().
LINES = ["insert / 0 line x", "pocket / 0 high x", "change low.1 x", "move low.1 / 0", "copy low.1 / 0", "delete low.1", "undo", "redo",
         "script tell 1;", "show", "clock", "room", "offer low.1 low / 0", "approve 0", "offers", "wrong"]


def run(*lines):
    """Runs lines at a new console, and returns it."""
    console = Console()
    for line in lines:
        console.run(line)
    return console


def filled():
    """Returns a console at which ann works at low, behind a pocket and a line in it."""
    return run(BEGIN, "as ann high", "as ann low", "pocket / 0 high p", "as ann high", "insert low.1 0 line s", "as ann low")


class LineTests(unittest.TestCase):
    def invalid(self, console, line):
        with self.assertRaises(InvalidLine) as caught:
            console.run(line)
        self.assertIs(caught.exception.value, line)

    def test_what_is_no_line(self):
        for console in (Console(), run(BEGIN), filled()):
            for line in [None, 0, b"undo", ["undo"], ("undo",), {}, "", " ", "  ", "none", "Undo", "UNDO", "undo\n", "\nundo", "show\n", "insert / 0 line a\nb",
                         "undo undo", "undo ", " undo", "redo 1", "show /", "clock low", "room ", "offers 1", "wrong ", "withdraw 1", "look", "log",
                         "typed", "box high", "as", "as ann", "as ann low ", "as  ann low", "as ann  low", "as Ann low", "as ann Low", "as ann low high",
                         "as ann /", "as ninesigns low", "undo\t", "\tundo", "undo\r", "show\x00"]:
                self.invalid(console, line)

    def test_names(self):
        console = filled()
        for name in ["", "low", "low.0", "low.01", ".1", "low.1+", "+low.1", "low.1++low.1", "low..1", "//", "low.1.2.3", "Low.1", "low.x.1.1", "-", "low.1,"]:
            for line in [f"delete {name}", f"change {name} x", f"move {name} / 0", f"move low.1 {name} 0", f"copy {name} / 0", f"insert {name} 0 line x",
                         f"pocket {name} 0 high x", f"offer {name} low / 0", f"offer low.1 low {name} 0"]:
                self.invalid(console, line)
        for name, value in [("low.7", low(7)), ("low.pad.1", low(1, "pad")), ("low.7+low.8", (*low(7), ("low", "", 8))), ("/", ()), ("none.1", (("none", "", 1),))]:
            with self.assertRaises(Refused) as caught:
                console.run(f"delete {name}")
            self.assertEqual([caught.exception.word, caught.exception.value], ["name", value])

    def test_numbers(self):
        console = filled()
        for number in ["", "00", "01", "-1", "+1", "1000000000", "0000000001", "12345678901", "1.0", "x", "1x", "0x1", "\u0661", "1 ", "--1", "1_0"]:
            for line in [f"insert / {number} line x", f"pocket / {number} high x", f"move low.1 / {number}", f"copy low.1 / {number}",
                         f"offer low.1 low / {number}", f"approve {number}"]:
                self.invalid(console, line)
        for number in [2, 999999999, 100, 10]:
            with self.assertRaises(Refused) as caught:
                console.run(f"insert / {number} line x")
            self.assertEqual([caught.exception.word, caught.exception.value], ["place", number])
        self.assertEqual([console.run("insert / 1 line x"), console.run("insert / 0 line x")], ["low.2", "low.3"])

    def test_words(self):
        console = filled()
        for word in ["", "Line", "ninesigns", "l1", "a-b", "/"]:
            self.invalid(console, f"insert / 0 {word} x")
            self.invalid(console, f"pocket / 0 {word} x")
            self.invalid(console, f"offer low.1 {word} / 0")

    def test_too_few_and_too_many_parts(self):
        console = filled()
        for line in ["insert", "insert /", "insert / 0", "insert / 0 line", "pocket / 0 high", "change low.1", "change", "move low.1 /", "move low.1 / 0 0",
                     "copy low.1", "copy low.1 / 0 x", "delete", "delete low.1 ", "delete low.1 low.1", "script", "offer low.1 low /", "offer low.1 low / 0 0",
                     "approve", "approve 1 1", "insert  / 0 line x", "insert / 0  line x", "insert /  0 line x", "move low.1  / 0", "change  low.1 x"]:
            self.invalid(console, line)

    def test_texts(self):
        console = filled()
        for text in ["", " ", "  a  b ", "a", '"', "\\", "x" * 200, "/ 0", " begin"]:
            old = console.run("change low.1 first")
            self.assertEqual(console.run(f"change low.1 {text}"), "first")
            self.assertEqual(console.run("change low.1 x"), text, old)
            name = console.run(f"insert / 0 line {text}")
            self.assertEqual(console.run(f"change {name} x"), text)
            console.run(f"delete {name}")
        for text in ["x" * 201, "\t", "\u00e9", "a\rb", "\x7f"]:
            with self.assertRaises(Refused) as caught:
                console.run(f"change low.1 {text}")
            self.assertEqual([caught.exception.word, caught.exception.value], ["deed", ("change", low(1), text)])

    def test_lines_are_looked_at_first(self):
        for console in (Console(), run(BEGIN)):
            self.invalid(console, "insert / 0 line")
            self.invalid(console, "as ann")
        self.invalid(Console(), "begin low")


class BeginTests(unittest.TestCase):
    def test_levels_and_pairs_in_any_order(self):
        for names, seen in [("low high", ["low", "high"]), ("low low<high high", ["low", "high"]), ("low<high low high", ["low", "high"]),
                            ("a b c b<c", ["a", "b", "c"]), ("a b<c b c", ["a", "b", "c"]), ("a b c d b<c c<d b<d", ["a", "b", "c", "d"]),
                            ("a b c a<b a<b", ["a", "b", "c"]), ("a b c d e f g h", list("abcdefgh"))]:
            console = Console()
            self.assertEqual(console.run(f"begin {names} / ann"), "ok")
            self.assertEqual(console.server.engine.levels.names(), seen)
        console = run("begin a b c b<c / ann", "as ann b", "as ann a", "pocket / 0 c x")
        self.assertEqual(console.server.engine.levels.downs("c"), ["a", "b", "c"])

    def test_levels_that_are_not_valid(self):
        console = filled()
        for line in ["begin", "begin ", "begin /", "begin low", "begin low high", "begin low high /", "begin low high / ", "begin / ann", "begin low low / ann",
                     "begin Low / ann", "begin low high<low high / ann", "begin low high low<low / ann", "begin low high low<mid / ann", "begin low<high / ann",
                     "begin low high low<high<low / ann", "begin low high < / ann", "begin low high low< / ann", "begin low high <high / ann",
                     "begin a b c d e f g h i / ann", "begin low  high / ann", "begin  low / ann", "begin low / Ann", "begin low / ann ninesigns",
                     "begin low / ann ", "begin low /  ann", "begin low / ann / bob", "begin low / /", "begin low/ ann", "begin low1 / ann", " begin low / ann",
                     "begin low / ann\n", "begin low high / ann low<high", "Begin low / ann", "begin low>high low high / ann"]:
            with self.assertRaises(InvalidLine) as caught:
                console.run(line)
            self.assertEqual(caught.exception.value, line)
            with self.assertRaises(InvalidLine):
                Console().run(line)
        # The server that was begun goes on.
        self.assertEqual(console.run("show"), 'pocket low.1 [high] "p"')

    def test_each_user_has_a_right_on_all_levels(self):
        console = run("begin a b c / zoe ann")
        for level in ("a", "b", "c"):
            self.assertEqual(list(console.server.users(level)), ["ann", "zoe"])
            self.assertEqual([console.run(f"as {user} {level}") for user in ("ann", "zoe")], ["ok", "ok"])

    def test_a_second_begin(self):
        console = filled()
        self.assertEqual(console.run("begin one two / eve"), "ok")
        for line in LINES:
            with self.assertRaises(NoServer):
                console.run(line)
        with self.assertRaises(NoRight):
            console.run("as ann one")
        with self.assertRaises(InvalidLevel):
            console.run("as eve low")
        self.assertEqual([console.run("as eve one"), console.run("show"), console.run("clock")], ["ok", "-", "0"])
        self.assertEqual(console.run("insert / 0 line x"), "one.1")

    def test_before_begin_and_before_as(self):
        for console, lines in [(Console(), [*LINES, "as ann low"]), (run(BEGIN), LINES)]:
            for line in lines:
                with self.assertRaises(NoServer):
                    console.run(line)
        self.assertEqual(run(BEGIN).run("as ann low"), "ok")

    def test_as(self):
        console = filled()
        for line, error, value in [("as eve low", NoRight, "eve"), ("as ann none", InvalidLevel, "none"), ("as eve none", InvalidLevel, "none")]:
            with self.assertRaises(error) as caught:
                console.run(line)
            self.assertEqual(caught.exception.value, value)
        # Who worked goes on.
        self.assertEqual([console.worker.user, console.worker.level], ["ann", "low"])
        self.assertEqual(console.run("as bob high"), "ok")
        self.assertEqual([console.worker.user, console.worker.level, console.worker.is_open], ["bob", "high", True])


class AnswerTests(unittest.TestCase):
    def test_each_kind_of_answer(self):
        console = filled()
        rows = [("insert / 1 list plans", "low.2"), ("insert low.2 0 line ", "low.3"), ("pocket low.2 1 high q", "low.4"), ("change low.3 a b", ""),
                ("change low.3 c", "a b"), ("move low.3 / 0", "ok"), ("copy low.2 / 0", "low.2+low.5"), ("delete low.2", "2"), ("delete low.3", "1"),
                ("undo", "delete"), ("redo", "delete"), ("undo", "delete"), ("script ", "0"), ('script tell 1; tell "a";', "2"), ("undo", "script"),
                ("script tell 1; tell 2; tell 3;", "3"), ("clock", "17"), ("room", "36"), ("offers", "-"), ("wrong", "-")]
        for line, text in rows:
            told = console.run(line)
            self.assertEqual(told, text, line)
            self.assertIsInstance(told, str)
        self.assertEqual(console.run("show"), '\n'.join([
            'list low.2+low.5 "plans"', '  pocket low.4+low.5 [high] "q"', 'line low.3 "c"', 'pocket low.1 [high] "p"']))

    def test_show(self):
        console = filled()
        self.assertEqual(console.run("show"), 'pocket low.1 [high] "p"')
        console.run("as ann high")
        self.assertEqual(console.run("show"), 'pocket low.1 {high} "p"\n  line high.1 "s"')
        console.run("as ann low")
        console.run("delete low.1")
        self.assertEqual(console.run("show"), "-")
        console.run("as ann high")
        self.assertEqual(console.run("show"), 'loose low.1\n  line high.1 "s"')

    def test_offers(self):
        console = filled()
        self.assertEqual([console.run(line) for line in ["as ann high", "offer high.1 low / 1", "offer high.1 low / 0", "offer high.1 low / 0", "offers"]],
                         ["ok", "1", "2", "3", "1 2 3"])
        with self.assertRaises(SameUser) as caught:
            console.run("approve 2")
        self.assertEqual(caught.exception.value, "ann")
        self.assertEqual([console.run(line) for line in ["as bob high", "approve 2", "offers", "approve 1", "as bob low", "offers"]],
                         ["ok", "low.2", "1 3", "low.3", "ok", "-"])
        self.assertEqual(console.run("show"), 'line low.2 "s"\nline low.3 "s"\npocket low.1 [high] "p"')
        for line, number in [("approve 0", 0), ("approve 3", 3), ("approve 999999999", 999999999)]:
            with self.assertRaises(NoOffer) as caught:
                console.run(line)
            self.assertEqual(caught.exception.value, number)
        for line, word, value in [("offer high.1 low / 0", "name", high(1)), ("offer low.1 none / 0", "closed", low(1)), ("offer low.2 none / 0", "above", "none")]:
            with self.assertRaises(Refused) as caught:
                console.run(line)
            self.assertEqual([caught.exception.word, caught.exception.value], [word, value])
        self.assertEqual(console.run("wrong"), "-")

    def test_refused_deeds(self):
        console = filled()
        for line, word, value in [("delete high.1", "name", high(1)), ("redo", "nothing", None), ("pocket / 0 low x", "above", "low"),
                                  ("pocket / 0 none x", "above", "none"), ("insert / 0 pocket x", "deed", ("insert", (), 0, "pocket", "x")),
                                  ("script tell 1", "script", ("syntax", 6)), ("script tell a;", "script", ("unset", 2, "a")),
                                  ("insert low.1 0 line x", "name", low(1)), ("move low.1 / 1", "place", 1)]:
            with self.assertRaises(Refused) as caught:
                console.run(line)
            self.assertEqual([caught.exception.word, caught.exception.value], [word, value], line)
        text = "x" * 2001
        with self.assertRaises(Refused) as caught:
            console.run(f"script {text}")
        self.assertEqual([caught.exception.word, caught.exception.value], ["deed", ("script", text)])
        self.assertEqual([console.run("clock"), console.run("wrong")], ["1", "-"])

    def test_wrong(self):
        console = filled()
        many = len(console.server)
        console.run("change low.1 x")
        console.server.engine.perform("low", ("change", low(1), "y"))
        self.assertEqual(console.run("wrong"), "-")
        console.run("change low.1 z")
        self.assertEqual(console.run("wrong"), str(many + 1))

    def test_full(self):
        console = run("begin low / ann", "as ann low")
        for _ in range(40):
            console.run("insert / 0 line x")
        with self.assertRaises(Refused) as caught:
            console.run("insert / 0 line x")
        self.assertEqual([caught.exception.word, caught.exception.value, console.run("room"), console.run("wrong")], ["full", 40, "0", "-"])

    def test_line_may_be_named(self):
        self.assertEqual(Console().run(line="begin low / ann"), "ok")


if __name__ == "__main__":
    unittest.main()
