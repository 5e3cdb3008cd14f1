"""Tests of the class Script: reading, writing, joining ([23], [24], [25])."""

import random
import types
import unittest
from unittest import mock

from maskededits.errors import InvalidScript
from maskededits.syntax import Script

CALLS = {"node": 1, "kids": 1, "text": 1, "kind": 1, "level": 1, "inner": 1, "holder": 1, "find": 1, "size": 1,
         "item": 2, "written": 1, "not": 1, "insert": 4, "pocket": 4, "change": 2, "move": 3, "copy": 3, "delete": 1}
KEYWORDS = "if else while for in try tell and or".split()
OPERATORS = ["or", "and", "==", "!=", "<", "<=", "+", "-", "*"]
RANKS = {"or": 0, "and": 1, "==": 2, "!=": 2, "<": 2, "<=": 2, "+": 3, "-": 3, "*": 4}


class ReadCase(unittest.TestCase):
    def invalid(self, text, at):
        with self.assertRaises(InvalidScript, msg=text) as caught:
            Script.read(text)
        self.assertEqual(caught.exception.at, at, text)

    def written(self, text, form):
        """Checks the written form of a text, and that it is read back."""
        script = Script.read(text)
        self.assertEqual(str(script), form)
        self.assertEqual(Script.read(form), script)
        self.assertEqual(str(Script.read(form)), form)


class WordTests(ReadCase):
    def test_numbers(self):
        for text in ["0", "7", "10", "9" * 18, "1" + "0" * 17]:
            self.written(f"tell {text};", f"tell {text};")
        for text in ["00", "01", "000", "0123", "1" * 19, "0" * 19, "9" * 1000]:
            self.invalid(f"tell {text};", 5)
        self.invalid("tell 1a;", 6)
        self.invalid("tell 1 2;", 7)
        self.invalid("tell 0x1;", 6)
        self.invalid("tell -1;", 5)

    def test_texts(self):
        signs = "".join(chr(code) for code in range(32, 127) if chr(code) != '"')
        for text in ["", "a", "  ", signs, "tell 1;", "\\", "#", "01"]:
            self.written(f'tell "{text}";', f'tell "{text}";')
        self.written('tell"a";', 'tell "a";')
        self.invalid('tell "a""b";', 8)
        self.written('tell "' + "x" * 1992 + '";', 'tell "' + "x" * 1992 + '";')

    def test_texts_that_read_like_other_tokens(self):
        for text in KEYWORDS + ["(", ")", "{", "}", ",", ";", "=", *OPERATORS, "a", "1", "find"]:
            self.written(f'"{text}";', f'"{text}";')
            self.written(f'x = "{text}" + "{text}";', f'x = "{text}" + "{text}";')
            self.invalid(f'tell a "{text}" b;', 7)
            self.invalid(f'x "{text}" 1;', 2)
            self.invalid(f'if a "{text}";', 5)
            self.invalid(f'tell find"{text}";', 9)
            self.invalid(f'tell find(1 "{text}" 2);', 12)
            self.invalid(f'for a "{text}" b {{}}', 6)
            self.invalid(f'"{text}" {{}}', len(text) + 3)

    def test_text_without_end(self):
        for text in ['tell "', 'tell "abc', 'tell "a\nb', 'tell "\u00e9', 'tell "abc;']:
            self.invalid(text, 5)
        self.invalid('tell "a"; tell "', 15)

    def test_signs_that_a_text_may_not_have(self):
        for sign in ["\n", "\t", "\r", "\x00", "\x1f", "\x7f", "\u00e9", "\u2028"]:
            self.invalid(f'tell "ab{sign}c{sign}";', 8)

    def test_words(self):
        for word in ["a", "z9", "a_", "a_b_1", "x" * 500, "ninesigns", "node", "find", "not", "iff", "tell_", "or1"]:
            self.written(f"{word}=1;tell {word};", f"{word} = 1;\ntell {word};")
        for word in ["_a", "A", "aB", "1a"]:
            with self.assertRaises(InvalidScript):
                Script.read(f"tell {word};")
        self.invalid("tell _a;", 5)
        self.invalid("tell A;", 5)
        self.invalid("tell aB;", 6)
        self.invalid("tell a b;", 7)

    def test_keywords_are_no_names(self):
        for word in KEYWORDS:
            self.invalid(f"tell {word};", 5)
            self.invalid(f"for {word} in a {{}}", 4)
        for word in ["else", "in", "and", "or"]:
            self.invalid(f"{word} = 1;", 0)
        for word, at in [("if", 3), ("while", 6), ("tell", 5), ("try", 4), ("for", 4)]:
            self.invalid(f"{word} = 1;", at)

    def test_blanks(self):
        self.written(" \n\t tell\n\n1\t;  \n", "tell 1;")
        self.written("tell(1)+(2);", "tell 1 + 2;")
        self.written("if a{tell 1;}else{tell 2;}", "if a {\n  tell 1;\n} else {\n  tell 2;\n}")
        for sign in ["\r", "\x0b", "\x0c", "\u00a0", "\u2003", "\x00"]:
            self.invalid(f"tell{sign}1;", 4)

    def test_signs_with_which_no_token_begins(self):
        for sign in ["#", "!", "&", "|", "/", "%", ".", ":", "'", "[", "]", ">", "?", "@", "~", "_", "A", "\u00e9"]:
            self.invalid(f"tell 1{sign}2;", 6)
        self.invalid("tell a ! = b;", 7)
        self.invalid("tell a > b;", 7)

    def test_of_two_signs_that_fit_the_longer_one_is_taken(self):
        self.written("tell a==b;", "tell a == b;")
        self.written("tell a<=b;", "tell a <= b;")
        self.written("tell a!=b;", "tell a != b;")
        self.written("a=b;", "a = b;")
        self.written("a==b;", "a == b;")
        self.invalid("a===b;", 3)
        self.invalid("a = =b;", 4)
        self.invalid("tell a<==b;", 8)
        self.invalid("tell a< =b;", 8)


class OrderOfFaultsTests(ReadCase):
    def test_the_examples(self):
        self.invalid("tell tell #", 10)
        self.invalid("# 01", 0)
        self.invalid("tell 1", 6)

    def test_a_text_that_is_too_long(self):
        long = "tell 1;" + " " * 1993
        self.assertEqual(len(long), 2000)
        self.written(long, "tell 1;")
        self.invalid(long + " ", 2000)
        for text in ["#" * 2001, '"' + "x" * 2000, "tell " * 1000, "0" * 2001, "\u00e9" * 9999]:
            self.invalid(text, 2000)
        self.invalid("#" * 2000, 0)

    def test_faults_of_tokens_come_first_from_left_to_right(self):
        self.invalid("; ; 01", 4)
        self.invalid('tell ; "a', 7)
        self.invalid("01 #", 0)
        self.invalid('01 "', 0)
        self.invalid('# "', 0)
        self.invalid('"a\nb" #', 2)
        self.invalid('"a#" #', 5)
        self.invalid('"\n', 0)
        self.invalid('tell "\t" "', 6)
        self.invalid("tell find(1, 2) 01;", 16)
        self.invalid("{" * 13 + "#", 13)

    def test_the_first_token_that_cannot_stand_where_it_is(self):
        for text, at in [
            (";", 0), ("}", 0), ("{", 0), (")", 0), ("= 1;", 0), ("* 1;", 0), (", 1;", 0), ("else {}", 0), ("in", 0),
            ("tell;", 4), ("tell 1,", 6), ("tell 1 = 2;", 7), ("tell a = 2;", 7), ("1 = 2;", 2), ("a b", 2),
            ("a = ;", 4), ("a = b = c;", 6), ("(a = 1);", 3), ("(a;", 2), ("(a b);", 3), ("();", 1), ("a);", 1),
            ("if {", 3), ("if a tell 1;", 5), ("if a { tell 1 }", 14), ("if a {};", 7), ("if a {} else tell 1;", 13),
            ("if a {} else if b {}", 13), ("if a {} else {} else {}", 16), ("while {", 6), ("while a;", 7),
            ("while a {} else {}", 11), ("for a {", 6), ("for 1 in a {}", 4), ("for a in {}", 9), ("for a of b {}", 6),
            ("for a in b {} else {}", 14), ("for (a) in b {}", 4), ("try tell 1;", 4), ("try a {}", 4),
            ("try {} else {} else", 15), ("a + ;", 4), ("a + + b;", 4), ("a or;", 4), ("a or or b;", 5),
            ("a and * b;", 6), ("a not b;", 2), ("1(2);", 1), ('"a"(1);', 3), ("(a)(b);", 3), ("find(1)(2);", 7),
            ("find(1,);", 7), ("find(,1);", 5), ("find(1 2);", 7), ("find(1;", 6), ("find(tell);", 5), ("f(a, 2 3);", 7),
            ("tell 1; }", 8), ("if a { } }", 9), ("try { } else { } }", 17), ("tell if(1);", 5), ("a = 1 tell 2;", 6),
        ]:
            self.invalid(text, at)

    def test_comparisons_do_not_stand_in_a_row(self):
        for one in ["==", "!=", "<", "<="]:
            for other in ["==", "!=", "<", "<="]:
                self.invalid(f"a {one} b {other} c;", len(f"a {one} b "))
        self.invalid("a + b < c * d < e;", 14)
        self.written("a < b and b < c or c == d;", "a < b and b < c or c == d;")
        self.written("(a < b) < c; a < (b < c);", "(a < b) < c;\na < (b < c);")

    def test_the_text_ends_too_early(self):
        for text in ["tell", "tell ", "tell 1", "tell 1 \n", "a", "a =", "a = 1", "if", "if a", "if a {", "if a { tell 1;",
                     "if a {} else", "if a {} else {", "while", "while a {", "for", "for a", "for a in", "for a in b",
                     "for a in b { ", "try", "try {", "try {} else", "(", "(a", "find", "find(", "find(1", "find(1,",
                     "a +", "a or", "a <", "1", '"a"']:
            self.invalid(text, len(text))

    def test_calls(self):
        for word, many in CALLS.items():
            for given in range(6):
                text = f"  {word}({', '.join('abcdef'[:given])});"
                if given == many:
                    self.written(text, text.strip())
                else:
                    self.invalid(text, 2)

    def test_calls_of_another_word(self):
        for text, at in [("foo();", 0), ("tell foo(1);", 5), ("x = y(1, 2);", 4), ("foo (1);", 0), ("find(foo(1));", 5),
                         ("foo(find());", 4), ("foo(bar());", 4), ("foo(1) + bar(2);", 0), ("undo();", 0),
                         ("script(1);", 0), ("box(1);", 0), ("typed(1);", 0), ("finds(1);", 0)]:
            self.invalid(text, at)

    def test_a_call_is_looked_at_once_its_parenthesis_is_closed(self):
        self.invalid("foo(1, ;", 7)
        self.invalid("foo(1 ;", 6)
        self.invalid("foo(", 4)
        self.invalid("foo(1", 5)
        self.invalid("find(1, 2", 9)
        self.invalid("find(1, 2) ;;", 0)
        self.invalid("find(1, 2) )", 0)
        self.invalid("find(1, foo(2), 3);", 8)
        self.invalid("find(find(), 3 3);", 5)


class NestingTests(ReadCase):
    def test_parentheses_around_expressions(self):
        self.written("tell " + "(" * 12 + "a" + ")" * 12 + ";", "tell a;")
        self.invalid("tell " + "(" * 13 + "a" + ")" * 13 + ";", 18)
        self.invalid("tell " + "(" * 13 + "   a", 21)
        self.invalid("tell " + "(" * 13 + " ", 19)
        self.invalid("tell " + "(" * 14, 18)
        self.written("tell " + "(1 + " * 12 + "1" + ")" * 12 + ";", "tell " + "1 + (" * 11 + "1 + 1" + ")" * 11 + ";")

    def test_parentheses_of_calls(self):
        self.written("not(" * 12 + "a" + ")" * 12 + ";", "not(" * 12 + "a" + ")" * 12 + ";")
        self.invalid("not(" * 13 + "a" + ")" * 13 + ";", 52)
        self.invalid("not(" * 13 + " a" + ")" * 13 + ";", 53)
        self.invalid("foo(" * 13 + "a" + ")" * 13 + ";", 52)

    def test_blocks(self):
        for head in ["if a ", "while a ", "for b in a ", "try ", "try {} else ", "if a {} else "]:
            text = (head + "{") * 12 + "tell 1;" + "}" * 12
            self.assertEqual(len(Script.read(text)), 1)
            self.assertEqual(Script.read(str(Script.read(text))), Script.read(text))
            # The first block of the thirteenth statement is one level too deep already.
            self.invalid((head + "{") * 13 + "}" * 13, len(head + "{") * 12 + (head + "{").index("{"))

    def test_all_kinds_together(self):
        self.assertEqual(len(Script.read("if a {" * 6 + "not(" * 3 + "(" * 3 + "a" + ")" * 6 + ";" + "}" * 6)), 1)
        self.invalid("if a {" * 6 + "not(" * 3 + "(" * 4 + "a" + ")" * 7 + ";" + "}" * 6, 36 + 12 + 4)
        self.invalid("if a {" * 12 + "not(a);" + "}" * 12, 76)
        self.invalid("if a {" * 12 + "tell (a);" + "}" * 12, 78)
        self.invalid("if a {" * 12 + "if (a) {", 76)
        self.assertEqual(len(Script.read("if a {" * 11 + "if (a) {}" + "}" * 11)), 1)

    def test_side_by_side_does_not_nest(self):
        text = "tell " + " + ".join(["(a)"] * 100) + "; " + "if a {} " * 50
        self.assertEqual(len(Script.read(text)), 51)


class WrittenTests(ReadCase):
    def test_statements(self):
        self.written("", "")
        self.written(" \n", "")
        self.written("a=1;tell a;find(a);", "a = 1;\ntell a;\nfind(a);")
        self.written("a;1;\"b\";(c);", 'a;\n1;\n"b";\nc;')
        self.written("if a{}", "if a {\n}")
        self.written("if a{}else{}", "if a {\n}")
        self.written("if a{}else{tell 1;}", "if a {\n} else {\n  tell 1;\n}")
        self.written("while a{b=1;tell b;}", "while a {\n  b = 1;\n  tell b;\n}")
        self.written("for a in b{}", "for a in b {\n}")
        self.written("try{}else{}", "try {\n}")
        self.written("try{tell 1;}else{tell 2;}", "try {\n  tell 1;\n} else {\n  tell 2;\n}")
        self.written("if a{for b in c{try{tell 1;}else{if d{}}}}tell 2;",
                     "if a {\n  for b in c {\n    try {\n      tell 1;\n    } else {\n      if d {\n      }\n    }\n"
                     "  }\n}\ntell 2;")

    def test_parentheses_that_are_not_needed(self):
        self.written("tell ((a)*(b))+(c);", "tell a * b + c;")
        self.written("tell a+(b*c);", "tell a + b * c;")
        self.written("tell (a+b)<(c+d);", "tell a + b < c + d;")
        self.written("tell (a<b)and(c);", "tell a < b and c;")
        self.written("tell (a and b)or(c and d);", "tell a and b or c and d;")
        self.written("tell (find((a)));", "tell find(a);")
        self.written("insert((a),1+2,(\"x\"),(b or c));", 'insert(a, 1 + 2, "x", b or c);')
        self.written("if (a or b) {} while (a) {} for x in (kids(a)) {} x = (1 + 2);",
                     "if a or b {\n}\nwhile a {\n}\nfor x in kids(a) {\n}\nx = 1 + 2;")

    def test_parentheses_that_stay(self):
        for text in ["(a + b) * c", "a * (b + c)", "(a + b) + c", "a + (b + c)", "a - (b - c)", "(a - b) - c",
                     "(a * b) * c", "a * (b * c)", "(a or b) and c", "(a or b) or c", "a or (b or c)",
                     "(a and b) and c", "(a < b) == c", "a == (b == c)", "(a and b) < c", "(a or b) + c",
                     "(a < b) * (c or d)", "not((a or b) * c)", "a + b - c + d", "a * b * c", "a or b or c"]:
            self.written(f"tell {text};", f"tell {text};")

    def test_parentheses_by_every_pair_of_operators(self):
        for inner in OPERATORS:
            for outer in OPERATORS:
                keep = RANKS[inner] <= RANKS[outer]
                left = f"(a {inner} b) {outer} c"
                right = f"a {outer} (b {inner} c)"
                self.written(f"{left};", f"{left};" if keep else f"a {inner} b {outer} c;")
                self.written(f"{right};", f"{right};" if keep else f"a {outer} b {inner} c;")

    def test_operators_bind_by_their_groups(self):
        for text, same in [("a or b and c", "a or (b and c)"), ("a and b or c", "(a and b) or c"),
                           ("a and b == c", "a and (b == c)"), ("a < b + c", "a < (b + c)"),
                           ("a + b * c", "a + (b * c)"), ("a * b - c", "(a * b) - c")]:
            self.assertEqual(Script.read(text + ";"), Script.read(same + ";"))
        for text, other in [("a + b + c", "(a + b) + c"), ("a - b + c", "a - (b + c)"), ("a or b or c", "(a or b) or c"),
                            ("a * b * c", "(a * b) * c")]:
            self.assertNotEqual(Script.read(text + ";"), Script.read(other + ";"))

    def test_random_scripts_are_read_back(self):
        for seed in range(300):
            text = RandomScript(seed).statements(0, 3)
            try:
                script = Script.read(text)
            except InvalidScript as error:
                self.assertIn(error.at, [2000], text)
                continue
            form = str(script)
            if len(form) <= 2000:
                self.assertEqual(Script.read(form), script)
                self.assertEqual(str(Script.read(form)), form)
            for line in form.split("\n"):
                self.assertRegex(line, r"\A( {2})*(\S.*)?[;{}]?\Z")


class RandomScript:
    def __init__(self, seed):
        self.random = random.Random(seed)

    def expression(self, deep):
        if deep <= 0 or self.random.random() < 0.3:
            return self.random.choice(["1", "0", "abc", '"t"', '""', "a_1", "999999999999999999"])
        choice = self.random.randrange(3)
        if choice == 0:
            return f"({self.expression(deep - 1)})"
        if choice == 1:
            word = self.random.choice(list(CALLS))
            return f"{word}({', '.join(self.expression(deep - 2) for _ in range(CALLS[word]))})"
        operator = self.random.choice(OPERATORS)
        return f"({self.expression(deep - 1)}) {operator} ({self.expression(deep - 2)})"

    def block(self, deep):
        return "{" + self.statements(deep, self.random.randint(0, 2)) + "}"

    def statements(self, deep, many):
        return " ".join(self.statement(deep) for _ in range(many))

    def statement(self, deep):
        expression = self.expression(4)
        choice = self.random.randrange(9 if deep < 4 else 3)
        if choice < 3:
            return [f"tell {expression};", f"x = {expression};", f"{expression};"][choice]
        block, other = self.block(deep + 1), self.block(deep + 1)
        return [f"if {expression} {block}", f"if {expression} {block} else {other}", f"while {expression} {block}",
                f"for x in {expression} {block}", f"try {block}", f"try {block} else {other}"][choice - 3]


class ScriptTests(ReadCase):
    def test_a_script_without_statements(self):
        self.assertEqual([str(Script()), len(Script()), list(Script().call_words())], ["", 0, []])
        self.assertEqual(Script(), Script.read(""))
        self.assertNotEqual(Script(), Script.read("1;"))

    def test_read_is_a_static_method(self):
        self.assertIsInstance(Script.__dict__["read"], staticmethod)
        self.assertEqual(Script().read("tell 1;"), Script.read("tell 1;"))

    def test_equality(self):
        one = Script.read("if a { tell 1; } x = find(\"b\");")
        self.assertTrue(one == Script.read(" if(a){tell 1;}else{}x=find((\"b\"));"))
        self.assertFalse(one != Script.read("if a { tell 1; } x = find(\"b\");"))
        texts = ["tell 1;", "tell 2;", 'tell "1";', "1;", "x = 1;", "tell x;", "tell y;", "y = 1;", "if 1 {}",
                 "while 1 {}", "if 1 { tell 1; }", "if 1 {} else { tell 1; }", "try { tell 1; }", "for x in 1 {}",
                 "for y in 1 {}", "try {} else { tell 1; }", "tell 1 + 2;", "tell 1 - 2;", "tell 2 + 1;", "tell 1 < 2;",
                 "tell 1 <= 2;", "text(1);", "kind(1);", "tell 1; tell 1;", "", "tell x or y;", "tell x and y;"]
        for index, text in enumerate(texts):
            for other, more in enumerate(texts):
                self.assertIs(Script.read(text) == Script.read(more), index == other, (text, more))

    def test_a_script_is_equal_to_nothing_else(self):
        script = Script.read("tell 1;")
        for thing in ["tell 1;", None, 1, True, (), [], object(), mock.ANY]:
            self.assertFalse(script == thing)
            self.assertTrue(script != thing)

    def test_adding(self):
        one, other = Script.read("tell 1; if a { tell 2; }"), Script.read("tell 3;")
        both = one + other
        self.assertEqual(both, Script.read("tell 1; if a { tell 2; } tell 3;"))
        self.assertEqual([len(one), len(other), len(both)], [2, 1, 3])
        self.assertEqual(str(both), "tell 1;\nif a {\n  tell 2;\n}\ntell 3;")
        self.assertEqual([Script() + one, one + Script()], [one, one])
        self.assertNotEqual(one + other, other + one)

    def test_a_long_sum_can_be_longer_than_what_can_be_read(self):
        one = Script.read("tell 1;" * 200)
        self.assertEqual(len(one + one), 400)
        self.invalid(str(one + one), 2000)

    def test_length_counts_statements_that_stand_in_no_block(self):
        self.assertEqual(len(Script.read("if a { tell 1; tell 2; } else { tell 3; } tell 4; try {}")), 3)

    def test_call_words(self):
        script = Script.read(
            'x = insert(node("/"), size(kids(node("a"))), "line", written(1) + text(x)); not(1);'
            "if find(a) { tell kind(a); } else { delete(level(a)); }"
            "while not(inner(a)) { move(item(a, 1), holder(a), 2); }"
            "for n in find(b) { try { change(n, text(n)); } else { copy(n, n, 0); } }"
            "tell text(a) + kind(a) == level(a) or pocket(a, 1, 2, 3);")
        words = script.call_words()
        self.assertIsInstance(words, types.GeneratorType)
        self.assertEqual(list(words), [
            "node", "node", "kids", "size", "written", "text", "insert", "not", "find", "kind", "level", "delete",
            "inner", "not", "item", "holder", "move", "find", "text", "change", "copy", "text", "kind", "level",
            "pocket"])

    def test_words_in_a_script(self):
        script = Script.read('if a { tell size(find("kids")); } node = 1; tell node;')
        for word in CALLS:
            self.assertIs(word in script, word in ["size", "find"])
        for thing in ["tell", "if", "a", "", None, 1, [], (), mock.ANY]:
            self.assertIs(thing in script, False)
        self.assertIs("find" in Script(), False)
        for form in ["tell {};", "x = {};", "{};", "if {} {{}}", "while {} {{}}", "for x in {} {{}}", "tell not({});",
                     "try {{ tell {}; }}", "try {{}} else {{ tell {}; }}", "if 1 {{}} else {{ tell {}; }}",
                     "tell 1 + (2 * {});", "for x in 1 {{ tell {}; }}", "while 1 {{ tell {}; }}", "if 1 {{ tell {}; }}"]:
            self.assertIs("kids" in Script.read(form.format("kids(a)")), True, form)


if __name__ == "__main__":
    unittest.main()
