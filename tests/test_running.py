"""Tests of run_script, Desk and the deed script ([26], [27])."""

import unittest
from unittest import mock

from helpers import all_seen, diamond, high, low, seen_of, texts, told, two_levels
from maskededits.engine import Desk, Engine
from maskededits.errors import InvalidLevel
from maskededits.levels import Levels
from maskededits.running import run_script
from maskededits.syntax import Script

ROOT = 'node("/")'
LARGEST = "999999999999999999"


def number(value):
    return ("number", value)


def text(value):
    return ("text", value)


class RunCase(unittest.TestCase):
    """Scripts on a desk: low.1 is a list with the items low.2, low.3; low.4 a pocket [high] with high.1."""

    def setUp(self):
        self.engine = two_levels()
        told(self.engine, "low", ("typed", ("list", "abc", (("item", "d", ()), ("item", "", ()))), (), 0),
             ("pocket", (), 1, "high", "p"))
        told(self.engine, "high", ("insert", low(4), 0, "line", "s"))
        self.desk = Desk(self.engine, "low")

    def run_text(self, source, steps=400, desk=None):
        """Runs a script and checks what it leaves as it was; returns the answer and the desk behind it."""
        desk = desk or self.desk
        before = (desk.view(), all_seen(desk.engine))
        answer, behind = run_script(Script.read(source), desk, steps)
        self.assertEqual((desk.view(), all_seen(desk.engine)), before, source)
        if answer[0] == "refused":
            self.assertIs(behind, desk)
        else:
            self.assertIsNot(behind, desk)
        return answer, behind

    def tells(self, source, *values):
        answer, behind = self.run_text(source)
        self.assertEqual(answer, ("told", values), source)
        self.assertIsInstance(answer[1], tuple)
        return behind

    def stops(self, source, word, count, value, steps=400):
        answer, _ = self.run_text(source, steps)
        self.assertEqual(answer, ("refused", "script", (word, count, value)), source)
        self.assertIs(type(answer[2][2]), type(value))


class ValueTests(RunCase):
    def test_literals(self):
        self.tells('tell 0; tell 7; tell ""; tell "a b"; tell ' + LARGEST + ";",
                   number(0), number(7), text(""), text("a b"), number(10 ** 18 - 1))

    def test_a_script_that_tells_nothing(self):
        self.tells("")
        self.tells('1; "a"; x = 2;')

    def test_names_and_lists(self):
        self.tells(f"tell {ROOT}; tell kids({ROOT}); tell kids(node(\"low.2\")); tell node(\"low.1\");",
                   ("name", ()), ("list", (low(1), low(4))), ("list", ()), ("name", low(1)))

    def test_what_counts_as_false_and_as_true(self):
        for expression in ["0", '""', 'kids(node("low.2"))', "1 - 1", 'inner(node("low.1"))']:
            self.tells(f"if {expression} {{ tell 1; }} else {{ tell 2; }} tell not({expression});", number(2), number(1))
        for expression in ["1", "0 - 1", '"0"', '" "', f"kids({ROOT})", ROOT, 'node("low.1")']:
            self.tells(f"if {expression} {{ tell 1; }} else {{ tell 2; }} tell not({expression});", number(1), number(0))


class StatementTests(RunCase):
    def test_variables(self):
        self.tells("x = 1; y = x; x = x + 1; tell x; tell y; node = 3; tell node;", number(2), number(1), number(3))

    def test_if_without_else(self):
        self.tells("if 0 { tell 1; } if 1 { tell 2; }", number(2))

    def test_while(self):
        self.tells("n = 3; while n { tell n; n = n - 1; } tell n;", number(3), number(2), number(1), number(0))
        self.tells("while 0 { tell 1; }")

    def test_for(self):
        self.tells('for n in kids(node("low.1")) { tell text(n); } tell n;', text("d"), text(""), ("name", low(3)))
        self.tells('n = 5; for n in kids(node("low.2")) { tell 1; } tell n;', number(5))

    def test_for_goes_through_the_list_as_it_was(self):
        behind = self.tells('x = kids(node("low.1")); for n in x { x = x + x; insert(holder(n), 0, "item", "new"); '
                            'tell size(x); }', number(4), number(8))
        self.assertEqual(texts(behind.engine, "low", low(1)), ["new", "new", "d", ""])
        self.tells('for n in find("item") { delete(n); tell size(find("item")); }', number(1), number(0))

    def test_for_of_what_is_no_list(self):
        for expression in ["1", '"a"', ROOT]:
            count = 3 if expression == ROOT else 2
            self.stops(f"for n in {expression} {{}}", "kind", count, "for")

    def test_statements_alone(self):
        behind = self.tells(f'insert({ROOT}, 0, "line", "x"); 5;')
        self.assertEqual(texts(behind.engine, "low"), ["x", "abc", "p"])


class OperatorTests(RunCase):
    def test_numbers(self):
        self.tells("tell 2 + 3; tell 2 - 3; tell 2 * 3; tell 2 + 3 * 4; tell 10 - 2 - 3; tell (2 + 3) * 4;",
                   number(5), number(-1), number(6), number(14), number(5), number(20))

    def test_joining(self):
        self.tells(f'tell "a" + "b" + ""; tell kids({ROOT}) + find("item");',
                   text("ab"), ("list", (low(1), low(4), low(2), low(3))))

    def test_comparing_for_equality(self):
        values = ["0", "1", '""', '"0"', '"a"', ROOT, 'node("low.1")', f"kids({ROOT})", 'kids(node("low.2"))',
                  'find("item")']
        for index, one in enumerate(values):
            for place, other in enumerate(values):
                self.tells(f"tell {one} == {other}; tell {one} != {other};",
                           number(int(index == place)), number(int(index != place)))

    def test_less_and_not_greater(self):
        self.tells("tell 1 < 2; tell 2 < 1; tell 1 < 1; tell 1 <= 1; tell 2 <= 1; tell 0 - 5 < 3;",
                   number(1), number(0), number(0), number(1), number(0), number(1))
        self.tells('tell "a" < "b"; tell "b" < "a"; tell "a" < "a"; tell "a" <= "a"; tell "a" < "ab"; tell "B" < "a";'
                   'tell "10" < "9"; tell "" <= "";', *[number(value) for value in [1, 0, 0, 1, 1, 1, 1, 1]])

    def test_or_and_and(self):
        self.tells('tell 0 or 0; tell 0 or 5; tell "a" or 0; tell 0 or "" or 1; tell 1 and 1; tell 1 and 0; '
                   'tell 2 and "a" and 3; tell 0 and 1;', *[number(value) for value in [0, 1, 1, 1, 1, 0, 1, 0]])
        self.tells("tell 1 or x; tell 0 and x; tell 0 or 1 or x; tell 1 and 0 and x; tell 0 and x or 1; "
                   "tell 1 or delete(1);", *[number(value) for value in [1, 0, 1, 0, 1, 1]])
        self.stops("tell 0 or x;", "unset", 4, "x")
        self.stops("tell 1 and x;", "unset", 4, "x")

    def test_kinds(self):
        values = {"number": "1", "text": '"a"', "name": ROOT, "list": 'find("item")'}
        fits = {"+": ["number", "text", "list"], "-": ["number"], "*": ["number"], "<": ["number", "text"],
                "<=": ["number", "text"]}
        for operator, kinds in fits.items():
            for one, left in values.items():
                for other, right in values.items():
                    source = f"tell {left} {operator} {right};"
                    count = 4 + (one in ("name", "list")) + (other in ("name", "list"))
                    if one == other and one in kinds:
                        self.assertEqual(self.run_text(source)[0][0], "told", source)
                    else:
                        self.stops(source, "kind", count, operator)

    def test_sizes_of_numbers(self):
        self.tells(f"tell {LARGEST} + 0; tell 0 - {LARGEST}; tell {LARGEST} * 1;",
                   number(10 ** 18 - 1), number(1 - 10 ** 18), number(10 ** 18 - 1))
        for source, operator in [(f"{LARGEST} + 1", "+"), (f"0 - {LARGEST} - 1", "-"), ("1000000000 * 1000000000", "*"),
                                 (f"(0 - {LARGEST}) + (0 - 1)", "+"), (f"{LARGEST} * {LARGEST}", "*")]:
            answer = self.run_text(f"tell {source};")[0]
            self.assertEqual([answer[2][0], answer[2][2]], ["size", operator])
        self.stops(f"tell {LARGEST} + 1;", "size", 4, "+")

    def test_sizes_of_texts_and_lists(self):
        long = '"' + "x" * 100 + '"'
        self.tells(f"tell {long} + {long};", text("x" * 200))
        self.stops(f'tell {long} + {long} + "x";', "size", 5, "+")
        self.stops('x = find("item"); n = 7; while n { x = x + x; n = n - 1; } tell x;', "size", 6 + 6 * 9 + 5, "+")
        self.tells('tell "' + "y" * 300 + '";', text("y" * 300))
        self.tells('tell size("' + "y" * 300 + '");', number(300))
        self.stops('tell "' + "y" * 201 + '" + "";', "size", 4, "+")

    def test_each_operator_is_applied_before_the_next_operand(self):
        self.stops('tell 1 + "a" + x;', "kind", 4, "+")
        self.stops(f"tell {LARGEST} + 1 + x;", "size", 4, "+")
        self.stops('tell 1 - 2 + "a" - x;', "kind", 5, "+")
        self.stops("tell x + y;", "unset", 3, "x")
        self.stops('tell "a" - x;', "unset", 4, "x")


class ReadingTests(RunCase):
    def test_node(self):
        self.tells('tell node("low.3"); tell node("/");', ("name", low(3)), ("name", ()))
        for source in ["", "x", "low.9", "high.1", "//", "low.1+low.2", "low.01"]:
            self.stops(f'tell node("{source}");', "name", 3, source)
        told(self.engine, "low", ("copy", low(1), (), 0))
        self.desk = Desk(self.engine, "low")
        self.tells('tell node("low.2+low.5");', ("name", (*low(2), ("low", "", 5))))

    def test_kids(self):
        self.tells(f'tell kids({ROOT}); tell kids(node("low.1"));', ("list", (low(1), low(4))), ("list", (low(2), low(3))))
        self.stops('tell kids(node("low.4"));', "closed", 4, low(4))
        answer, _ = self.run_text('tell kids(node("low.4"));', desk=Desk(self.engine, "high"))
        self.assertEqual(answer, ("told", (("list", (high(1),)),)))

    def test_parts_of_nodes(self):
        self.tells('n = node("low.2"); tell text(n); tell kind(n); tell level(n); tell inner(n); tell holder(n);',
                   text("d"), text("item"), text("low"), text(""), ("name", low(1)))
        self.tells('n = node("low.4"); tell text(n); tell kind(n); tell level(n); tell inner(n); tell holder(n);',
                   text("p"), text("pocket"), text("low"), text("high"), ("name", ()))

    def test_names_that_are_not_seen(self):
        self.stops(f"tell text({ROOT});", "name", 4, ())
        for word in ["text", "kind", "level", "inner", "holder"]:
            self.stops(f"tell {word}({ROOT});", "name", 4, ())
        for word in ["text", "kind", "level", "inner", "holder", "kids"]:
            self.stops(f'n = node("low.2"); delete(n); tell {word}(n);', "name", 9, low(2))

    def test_a_loose_box_is_no_seen_node(self):
        told(self.engine, "low", ("delete", low(4)))
        self.desk = Desk(self.engine, "high")
        self.tells('tell find("line"); tell holder(node("high.1"));', ("list", (high(1),)), ("name", low(4)))
        for word in ["kids", "text", "holder"]:
            self.stops(f'tell {word}(holder(node("high.1")));', "name", 5, low(4))
        self.stops('tell node("low.4");', "name", 3, "low.4")

    def test_find(self):
        self.tells('tell find("item"); tell find("pocket"); tell find("list"); tell find("none"); tell find("");',
                   ("list", (low(2), low(3))), ("list", (low(4),)), ("list", (low(1),)), ("list", ()), ("list", ()))
        self.tells('tell find("line");', ("list", ()))

    def test_find_goes_in_the_order_of_walk(self):
        told(self.engine, "high", ("insert", low(4), 0, "line", "t"))
        told(self.engine, "low", ("pocket", (), 0, "high", "q"))
        told(self.engine, "high", ("insert", low(5), 0, "line", "u"))
        told(self.engine, "low", ("delete", low(4)))
        self.desk = Desk(self.engine, "high")
        self.tells('tell find("line");', ("list", (high(3), high(2), high(1))))

    def test_size_item_written_not(self):
        self.tells(f'tell size(""); tell size("abc"); tell size(kids({ROOT})); tell size(find("none"));',
                   number(0), number(3), number(2), number(0))
        self.tells(f'x = kids({ROOT}); tell item(x, 0); tell item(x, 1);', ("name", low(1)), ("name", low(4)))
        self.tells(f"tell written(0); tell written(0 - 12); tell written({LARGEST});",
                   text("0"), text("-12"), text(LARGEST))
        self.tells('tell not(0); tell not("a"); tell not(not(5));', number(1), number(0), number(1))

    def test_items_that_are_not_there(self):
        self.stops(f"tell item(kids({ROOT}), 2);", "item", 6, 2)
        self.stops(f"tell item(kids({ROOT}), 0 - 1);", "item", 8, -1)
        self.stops('tell item(find("none"), 0);', "item", 5, 0)

    def test_kinds_of_arguments(self):
        values = {"number": "1", "text": '"a"', "name": ROOT, "list": 'find("item")'}
        kinds = {"node": ["text"], "kids": ["name"], "text": ["name"], "kind": ["name"], "level": ["name"],
                 "inner": ["name"], "holder": ["name"], "find": ["text"], "size": ["text", "list"],
                 "written": ["number"], "delete": ["name"]}
        for word, fits in kinds.items():
            for kind, source in values.items():
                if kind not in fits:
                    self.stops(f"tell {word}({source});", "kind", 4 if kind in ("name", "list") else 3, word)
        fits = {"item": ["list", "number"], "insert": ["name", "number", "text", "text"],
                "pocket": ["name", "number", "text", "text"], "change": ["name", "text"],
                "move": ["name", "name", "number"], "copy": ["name", "name", "number"]}
        for word, row in fits.items():
            for index in range(len(row)):
                for kind, source in values.items():
                    if kind != row[index]:
                        parts = [values[each] for each in row]
                        parts[index] = source
                        answer, _ = self.run_text(f"tell {word}({', '.join(parts)});")
                        self.assertEqual([answer[2][0], answer[2][2]], ["kind", word])

    def test_arguments_are_evaluated_before_kinds_are_checked(self):
        self.stops("tell item(1, x);", "unset", 4, "x")
        self.stops("tell item(x, y);", "unset", 3, "x")
        self.stops('tell change(1, text(node("low.9")));', "name", 6, "low.9")

    def test_lists_that_are_too_long(self):
        engine = Engine(Levels(["low", "high"]), limit=60)
        told(engine, "low", ("pocket", (), 0, "high", ""))
        told(engine, "high", ("typed", ("list", "", tuple([("item", "", ())] * 50)), low(1), 0))
        told(engine, "low", ("copy", low(1), (), 0), ("copy", low(1), (), 0), ("copy", low(1), (), 0))
        self.desk = Desk(engine, "high")
        answer, _ = self.run_text('tell size(find("item"));')
        self.assertEqual(answer, ("told", (number(200),)))
        told(engine, "high", ("insert", low(1), 0, "item", ""))
        self.desk = Desk(engine, "high")
        self.stops('tell size(find("item"));', "size", 4, "find")

    def test_children_that_are_too_many(self):
        engine = Engine(Levels(["low", "high"]), limit=60)
        told(engine, "low", ("pocket", (), 0, "high", ""))
        told(engine, "high", ("typed", ("list", "", tuple([("item", "", ())] * 50)), low(1), 0))
        for _ in range(4):
            told(engine, "low", ("copy", low(1), (), 0))
        for mark in range(2, 6):
            for index in range(50):
                told(engine, "high", ("move", (*high(index + 2), ("low", "", mark)), high(1), 0))
        self.desk = Desk(engine, "high")
        self.stops('tell kids(node("high.1"));', "size", 4, "kids")


class DeedCallTests(RunCase):
    def test_what_is_told(self):
        behind = self.tells(
            f'tell insert({ROOT}, 0, "line", "x"); tell pocket({ROOT}, 0, "high", "y"); tell change(node("low.1"), "z");'
            f'tell move(node("low.1"), {ROOT}, 0); tell copy(node("low.1"), {ROOT}, 0); tell delete(node("low.1"));',
            ("name", low(5)), ("name", low(6)), text("abc"), number(0), ("name", (*low(1), ("low", "", 7))), number(3))
        self.assertEqual(texts(behind.engine, "low"), ["z", "y", "x", "p"])
        self.assertEqual(texts(self.engine, "low"), ["abc", "p"])

    def test_refused_deeds(self):
        self.stops(f'insert({ROOT}, 3, "line", "");', "deed", 7, ("place", 3))
        self.stops(f'insert({ROOT}, 0 - 1, "line", "");', "deed", 9, ("place", -1))
        self.stops(f'pocket({ROOT}, 0, "low", "");', "deed", 7, ("above", "low"))
        self.stops(f'pocket({ROOT}, 0, "none", "");', "deed", 7, ("above", "none"))
        self.stops('move(node("low.1"), node("low.2"), 0);', "deed", 7, ("inside", low(2)))
        self.stops('insert(node("low.4"), 0, "line", "");', "deed", 7, ("name", low(4)))
        self.stops(f'change({ROOT}, "");', "deed", 5, ("name", ()))
        self.stops('n = node("low.2"); delete(n); change(n, "");', "deed", 10, ("name", low(2)))
        self.stops(f'insert({ROOT}, 0, "pocket", "");', "deed", 7, ("deed", ("insert", (), 0, "pocket", "")))
        self.stops(f'insert({ROOT}, 0, "Line", "");', "deed", 7, ("deed", ("insert", (), 0, "Line", "")))
        long = "x" * 201
        self.stops(f'change(node("low.1"), "{long}");', "deed", 5, ("deed", ("change", low(1), long)))
        self.desk = Desk(self.engine, "high")
        self.stops('change(node("low.1"), "");', "deed", 5, ("own", low(1)))

    def test_no_room(self):
        engine = two_levels(limit=2)
        desk = Desk(engine, "low")
        answer, behind = self.run_text(f'while 1 {{ insert({ROOT}, 0, "line", ""); }}', desk=desk)
        self.assertEqual(answer, ("refused", "script", ("deed", 1 + 1 + 7 + 1 + 7 + 1 + 7, ("full", 2))))


class StopTests(RunCase):
    def test_unset(self):
        self.stops("tell x;", "unset", 2, "x")
        self.stops("tell node;", "unset", 2, "node")
        self.stops("if 0 { x = 1; } tell x;", "unset", 4, "x")

    def test_counts_of_statements_and_expressions(self):
        self.stops('insert(node("/"), 0, "line", "a"); tell 1 + "b";', "kind", 11, "+")
        self.stops("x = 1; y = x; tell z;", "unset", 6, "z")
        self.stops("tell ((((x))));", "unset", 2, "x")
        self.stops("tell 1 + 2 + 3 * 4 + x;", "unset", 8, "x")
        self.stops("tell 1 < 2 and 3 < 4 and x;", "unset", 9, "x")
        self.stops("if 1 { tell x; }", "unset", 4, "x")
        self.stops("if 0 { tell x; } else { tell y; }", "unset", 4, "y")
        self.stops("n = 2; while n { n = n - 1; } tell x;", "unset", 2 + 1 + 3 * 1 + 2 * 4 + 2, "x")
        self.stops('for n in find("item") { n; } tell x;', "unset", 3 + 2 * 2 + 2, "x")
        self.stops("try { tell y; } else { tell x; }", "unset", 5, "x")
        self.stops("try { try { tell y; } } tell x;", "unset", 6, "x")

    def test_all_steps_are_used(self):
        self.stops("while 1 {}", "steps", 400, 400)
        self.stops("while 1 {}", "steps", 7, 7, steps=7)
        self.stops("tell 1;", "steps", 0, 0, steps=0)
        self.stops("tell 1;", "steps", 1, 1, steps=1)
        self.stops("tell x;", "steps", 1, 1, steps=1)
        self.stops("tell x;", "unset", 2, "x", steps=2)
        self.assertEqual(self.run_text("tell 1;", 2)[0], ("told", (number(1),)))
        self.assertEqual(self.run_text("", 0)[0], ("told", ()))

    def test_400_steps_and_one_more(self):
        self.tells("1;" * 200)
        self.stops("1;" * 201, "steps", 400, 400)
        self.stops("1;" * 199 + "1 + 1;", "steps", 400, 400)
        self.tells("1;" * 198 + "1 + 1;")
        self.tells("if 1 {" + "1;" * 199 + "}")
        self.stops("if 1 {" + "1;" * 199 + "2; }", "steps", 400, 400)
        self.assertEqual(run_script(Script.read("1;" * 201), self.desk, 402)[0], ("told", ()))
        self.assertEqual(run_script(Script.read("1;" * 201), self.desk, steps=401)[0][2], ("steps", 401, 401))

    def test_a_stop_takes_back_all(self):
        self.stops(f'insert({ROOT}, 0, "line", ""); tell 1; x = 2; tell y;', "unset", 13, "y")

    def test_running_twice_is_the_same(self):
        source = f'tell insert({ROOT}, 0, "line", "x"); tell size(find("line"));'
        self.assertEqual(self.run_text(source)[0], self.run_text(source)[0])


class TryTests(RunCase):
    def test_a_block_that_does_not_stop(self):
        behind = self.tells(f'try {{ x = 1; tell insert({ROOT}, 0, "line", "x"); }} else {{ tell 2; }} tell x;',
                            ("name", low(5)), number(1))
        self.assertEqual(texts(behind.engine, "low"), ["x", "abc", "p"])

    def test_what_is_taken_back(self):
        behind = self.tells(
            f'x = 1; tell x; try {{ x = 2; y = 3; tell x; insert({ROOT}, 0, "line", "gone"); tell z; }} tell x;'
            f'try {{ tell y; }} else {{ tell 9; }} tell insert({ROOT}, 0, "line", "stays");',
            number(1), number(1), number(9), ("name", low(5)))
        self.assertEqual(texts(behind.engine, "low"), ["stays", "abc", "p"])

    def test_what_is_seen_behind_a_block_that_stopped(self):
        self.tells(f'try {{ insert({ROOT}, 0, "line", ""); x = size(find("line")); tell y; }} tell size(find("line"));',
                   number(0))
        self.tells(f'tell size(find("line")); insert({ROOT}, 0, "line", ""); tell size(find("line"));',
                   number(0), number(1))
        self.tells('try { delete(node("low.1")); x = kids(node("/")); tell y; } else { tell text(node("low.1")); }',
                   text("abc"))

    def test_each_stop_but_steps_is_caught(self):
        for source in ["tell x;", 'tell 1 + "a";', f"tell {LARGEST} + 1;", 'tell item(find("none"), 0);',
                       'tell node("x");', 'tell kids(node("low.4"));', f'change({ROOT}, "");', "for n in 1 {}"]:
            self.tells(f"try {{ tell 0; {source} }} else {{ tell 1; }} tell 2;", number(1), number(2))
            self.tells(f"try {{ tell 0; {source} }} tell 2;", number(2))
        self.stops("try { while 1 {} } else { tell 1; }", "steps", 400, 400)
        self.stops("try { try { while 1 {} } } else { tell 1; }", "steps", 9, 9, steps=9)

    def test_the_count_goes_on(self):
        self.stops("try { tell 1; tell 2; tell x; } tell y;", "unset", 1 + 2 + 2 + 2 + 2, "y")
        self.stops("while 1 { try { tell x; } }", "steps", 400, 400)

    def test_inside_another_one(self):
        behind = self.tells(
            f'try {{ insert({ROOT}, 0, "line", "a"); x = 1; try {{ insert({ROOT}, 0, "line", "b"); x = 2; tell x; '
            f'tell z; }} else {{ tell x; insert({ROOT}, 0, "line", "c"); }} tell 5; }} else {{ tell 6; }}',
            number(1), number(5))
        self.assertEqual(texts(behind.engine, "low"), ["c", "a", "abc", "p"])
        behind = self.tells(
            f'try {{ insert({ROOT}, 0, "line", "a"); tell 1; try {{ insert({ROOT}, 0, "line", "b"); }} tell z; }}'
            f' else {{ tell 6; insert({ROOT}, 0, "line", "d"); }}', number(6))
        self.assertEqual(texts(behind.engine, "low"), ["d", "abc", "p"])

    def test_a_stop_in_the_block_behind_else_goes_on(self):
        self.stops("try { tell x; } else { tell y; }", "unset", 5, "y")
        self.tells("try { try { tell x; } else { tell 1; tell y; } } else { tell 2; }", number(2))

    def test_inside_loops(self):
        behind = self.tells('for n in find("item") { try { tell text(n); change(n, "new"); if text(n) == "new" { '
                            'if size(find("none") + kids(holder(n))) == 2 { move(n, n, 0); } } } else { tell 0; } }',
                            number(0), number(0))
        self.assertEqual(texts(behind.engine, "low", low(1)), ["d", ""])


class DeskTests(RunCase):
    def test_what_is_no_level(self):
        for level in ["none", "", None, 1, True, [], mock.ANY]:
            with self.assertRaises(InvalidLevel) as caught:
                Desk(self.engine, level)
            self.assertIs(caught.exception.value, level)

    def test_a_desk_works_on_a_twin(self):
        before = all_seen(self.engine)
        self.assertEqual(self.desk.deed(("insert", (), 0, "line", "x")), ("told", low(5)))
        self.assertEqual(all_seen(self.engine), before)
        told(self.engine, "low", ("delete", low(1)))
        self.assertIn(low(1), self.desk.view())

    def test_views_and_deeds_of_its_level(self):
        self.assertEqual(self.desk.view(), self.engine.view("low"))
        desk = Desk(self.engine, "high")
        self.assertEqual(desk.view(), self.engine.view("high"))
        self.assertEqual(desk.deed(("change", low(1), "x")), ("refused", "own", low(1)))
        self.assertEqual(desk.deed(("change", high(1), "x")), ("told", "s"))
        self.assertEqual(self.desk.deed(("change", high(1), "x")), ("refused", "name", high(1)))
        self.assertEqual(self.desk.deed(("box", "high")), ("told", low(5)))

    def test_deeds_that_are_refused_at_a_desk(self):
        self.desk.deed(("change", low(1), "x"))
        before = self.desk.view()
        for deed in [("undo",), ("redo",), ("script", ""), ("script", "tell"), ("typed", ("a", "", ()), (), 0), None, 1,
                     ("typed", ("a", "", ()), low(9), 9), [], ("insert",), ("look",), ("script", " " * 2001)]:
            answer = self.desk.deed(deed)
            self.assertEqual(answer, ("refused", "deed", deed))
            self.assertIs(answer[2], deed)
        self.assertEqual(self.desk.view(), before)

    def test_twins_are_independent(self):
        self.desk.deed(("insert", (), 0, "line", "x"))
        twin = self.desk.twin()
        self.assertEqual(twin.view(), self.desk.view())
        self.assertEqual(twin.deed(("insert", (), 0, "line", "y")), ("told", low(6)))
        self.assertEqual(texts(self.desk.engine, "low"), ["x", "abc", "p"])
        self.assertEqual(self.desk.deed(("delete", low(5))), ("told", 1))
        self.assertEqual([twin.view()[name][1] for name in twin.view().holds(())], ["y", "x", "abc", "p"])
        self.assertEqual(self.desk.deed(("insert", (), 0, "line", "z")), ("told", low(6)))

    def test_the_desk_behind_a_script_goes_on(self):
        answer, behind = self.run_text(f'tell insert({ROOT}, 0, "line", "x");')
        self.assertEqual(answer, ("told", (("name", low(5)),)))
        answer, more = self.run_text(f'tell insert({ROOT}, 0, "line", "y");', desk=behind)
        self.assertEqual(answer, ("told", (("name", low(6)),)))
        self.assertEqual([more.view()[name][1] for name in more.view().holds(())], ["y", "x", "abc", "p"])

    def test_run_script_asks_any_desk(self):
        class Told:
            """A desk that notes its deeds; a twin notes its own."""

            def __init__(self, view, deeds=()):
                self.shown, self.deeds = view, list(deeds)

            def view(self):
                return self.shown

            def deed(self, deed):
                self.deeds.append(deed)
                return ("refused", "full", 9) if deed[0] == "insert" else ("told", None)

            def twin(self):
                return Told(self.shown, self.deeds)

        desk = Told(self.engine.view("high"))
        source = ('tell text(node("high.1")); tell move(node("low.1"), node("/"), 7); '
                  'try { move(node("low.2"), node("/"), 0); insert(node("/"), 1, "a", "b"); } else { tell 5; }')
        answer, behind = run_script(Script.read(source), desk)
        self.assertEqual(answer, ("told", (text("s"), number(0), number(5))))
        self.assertEqual([desk.deeds, behind.deeds], [[], [("move", low(1), (), 7)]])
        answer, behind = run_script(Script.read('insert(node("/"), 1, "a", "b");'), desk)
        self.assertEqual(answer, ("refused", "script", ("deed", 7, ("full", 9))))
        self.assertIs(behind, desk)


class ScriptDeedTests(unittest.TestCase):
    def test_the_example(self):
        engine = two_levels()
        told(engine, "low", ("pocket", (), 0, "high", "plans"))
        told(engine, "high", ("insert", low(1), 0, "line", "secret"))
        sources = ['for n in find("pocket") { tell text(n); } tell size(kids(node("/")));',
                   'insert(node("/"), 0, "line", "a"); tell 1 + "b";', "tell 1"]
        self.assertEqual([engine.perform("low", ("script", source)) for source in sources],
                         [("told", (text("plans"), number(1))), ("refused", "script", ("kind", 11, "+")),
                          ("refused", "script", ("syntax", 6))])

    def test_one_entry_one_step_one_undo(self):
        engine = two_levels()
        source = 'x = insert(node("/"), 0, "line", "a"); insert(x, 0, "line", "b"); change(x, "c"); tell x;'
        self.assertEqual(engine.perform("low", ("script", source)), ("told", (("name", low(1)),)))
        self.assertEqual([engine.clock("low"), engine.clock("high")], [1, 1])
        self.assertEqual(engine.log("low"), [(("script", source), (("name", low(1)),))])
        self.assertEqual([texts(engine, "low"), texts(engine, "low", low(1)), engine.room("low")], [["c"], ["b"], 38])
        self.assertEqual(engine.perform("low", ("undo",)), ("told", "script"))
        self.assertEqual([engine.view("low").tree(), engine.room("low")], [(), 40])
        self.assertEqual(engine.perform("low", ("undo",)), ("refused", "nothing", None))
        self.assertEqual(engine.perform("low", ("redo",)), ("told", "script"))
        self.assertEqual([texts(engine, "low"), texts(engine, "low", low(1)), engine.room("low")], [["c"], ["b"], 38])
        self.assertEqual(told(engine, "low", ("insert", (), 0, "line", "")), [low(3)])

    def test_a_script_without_deeds_is_a_deed(self):
        engine = two_levels()
        told(engine, "low", ("insert", (), 0, "line", "a"), ("undo",))
        self.assertEqual(engine.perform("low", ("script", "")), ("told", ()))
        self.assertEqual(engine.perform("low", ("redo",)), ("refused", "nothing", None))
        self.assertEqual(engine.perform("low", ("undo",)), ("told", "script"))
        self.assertEqual(engine.clock("low"), 4)

    def test_a_refused_script_changes_nothing(self):
        engine = two_levels()
        told(engine, "low", ("insert", (), 0, "line", "a"), ("insert", (), 0, "line", "b"), ("undo",))
        before = all_seen(engine)
        deeds = 'insert(node("/"), 0, "line", "x"); pocket(node("/"), 0, "high", ""); delete(node("low.1")); '
        for source, value in [(deeds + "tell x;", ("unset", 20, "x")), ("tell", ("syntax", 4)),
                              (deeds + "while 1 {}", ("steps", 400, 400)), ("#", ("syntax", 0)),
                              ("tell \u00e9;", ("syntax", 5))]:
            self.assertEqual(engine.perform("low", ("script", source)), ("refused", "script", value))
            self.assertEqual(all_seen(engine), before)
        self.assertEqual(told(engine, "low", ("redo",), ("insert", (), 0, "line", "")), ["insert", low(3)])

    def test_texts_of_2000_and_of_2001_signs(self):
        engine = two_levels()
        self.assertEqual(engine.perform("low", ("script", " " * 2000)), ("told", ()))
        deed = ("script", " " * 2001)
        self.assertEqual(engine.perform("low", deed), ("refused", "deed", deed))
        self.assertEqual(engine.perform("low", ("script", "#" * 2000)), ("refused", "script", ("syntax", 0)))

    def test_a_script_has_400_steps(self):
        engine = two_levels()
        self.assertEqual(engine.perform("low", ("script", "1;" * 200)), ("told", ()))
        self.assertEqual(engine.perform("low", ("script", "1;" * 201)), ("refused", "script", ("steps", 400, 400)))

    def test_numbers_are_drawn_by_source_alone(self):
        engine = two_levels()
        deed = ("script", 'tell insert(node("/"), 0, "line", ""); try { insert(node("/"), 0, "line", ""); tell x; } '
                          'tell pocket(node("/"), 0, "high", "");')
        self.assertEqual(engine.perform("low", deed, "pad"), ("told", (("name", low(1, "pad")), ("name", low(2, "pad")))))
        self.assertEqual(engine.perform("low", deed), ("told", (("name", low(1)), ("name", low(2)))))
        answer = engine.perform("low", deed, "pad", ("low", "other", 7))
        self.assertEqual(answer, ("told", (("name", low(3, "pad")), ("name", low(4, "pad")))))
        answer = engine.perform("low", deed, "", ("low", "", 1))
        self.assertEqual(answer, ("told", (("name", low(3)), ("name", low(4)))))
        self.assertEqual(engine.perform("low", ("insert", (), 0, "line", ""), "other")[1], low(1, "other"))

    def test_other_levels_go_on_behind_a_script(self):
        engine = diamond()
        told(engine, "low", ("script", 'pocket(node("/"), 0, "east", "e"); pocket(node("/"), 1, "top", "t");'))
        told(engine, "east", ("script", 'insert(node("low.1"), 0, "line", "x"); change(node("east.1"), "y");'))
        told(engine, "low", ("script", 'copy(node("low.1"), node("/"), 0); delete(node("low.1"));'))
        self.assertEqual(engine.view("top").loose, {low(1): "east"})
        told(engine, "east", ("undo",))
        self.assertEqual(texts(engine, "east", low(1)), [])
        copied = (*low(1), ("low", "", 3))
        self.assertEqual(texts(engine, "east", copied), ["y"])
        told(engine, "low", ("undo",))
        self.assertEqual([engine.view("top").loose, texts(engine, "low")], [{copied: "east"}, ["e", "t"]])
        told(engine, "east", ("redo",))
        told(engine, "low", ("redo",))
        self.assertEqual(texts(engine, "east", low(1)), ["y"])

    def test_what_leads_back_from_a_script_is_what_was_before_it(self):
        one, other = two_levels(), two_levels()
        told(one, "low", ("insert", (), 0, "line", "a"), ("script", 'change(node("low.1"), "c");'))
        told(other, "low", ("insert", (), 0, "line", "b"), ("script", 'change(node("low.1"), "c");'))
        self.assertEqual(one.view("low"), other.view("low"))
        self.assertNotEqual(one.state("low"), other.state("low"))
        told(one, "low", ("undo",))
        self.assertEqual(texts(one, "low"), ["a"])

    def test_the_view_is_that_of_the_level(self):
        engine = two_levels()
        told(engine, "low", ("pocket", (), 0, "high", "p"))
        source = 'tell size(find("line"));'
        told(engine, "high", ("insert", low(1), 0, "line", "s"))
        self.assertEqual([engine.perform(level, ("script", source)) for level in ["low", "high"]],
                         [("told", (number(0),)), ("told", (number(1),))])
        self.assertEqual(seen_of(engine, "low")[3], 2)


if __name__ == "__main__":
    unittest.main()
