"""Tests of marks, names and their texts ([2], [3], [6])."""

import itertools
import unittest
from unittest import mock

from maskededits.errors import InvalidName
from maskededits.names import is_mark, is_name, name_text, parse_name

LARGEST = 10 ** 18
MARKS = [("low", "", 1), ("low", "pad", 1), ("abcdefgh", "zzzzzzzz", LARGEST), ("a", "", LARGEST)]
NO_MARKS = [
    ("low",), ("low", 1), ("low", "", 1, 1), ["low", "", 1], "low.1", None, 3, True, {}, object(), mock.ANY,
    ("", "", 1), ("Low", "", 1), ("low1", "", 1), ("abcdefghi", "", 1), (None, "", 1), (1, "", 1), ([], "", 1),
    ("low", None, 1), ("low", "Pad", 1), ("low", "pad1", 1), ("low", "abcdefghi", 1), ("low", [], 1), ("low", 0, 1),
    ("low", "", 0), ("low", "", -1), ("low", "", LARGEST + 1), ("low", "", True), ("low", "", False),
    ("low", "", 1.0), ("low", "", "1"), ("low", "", None), ("low", "", []), (mock.ANY, "", 1), ("low", mock.ANY, 1),
]


class MarkTests(unittest.TestCase):
    def test_marks(self):
        for mark in MARKS:
            self.assertIs(is_mark(mark), True, mark)

    def test_what_is_no_mark(self):
        for thing in NO_MARKS + [(), MARKS, (MARKS[0],)]:
            self.assertIs(is_mark(thing), False, repr(thing))


class NameTests(unittest.TestCase):
    def test_names(self):
        for name in [(), (MARKS[0],), tuple(MARKS), (MARKS[0], MARKS[0])]:
            self.assertIs(is_name(name), True, name)

    def test_what_is_no_name(self):
        for thing in NO_MARKS:
            self.assertIs(is_name(thing), False, repr(thing))
            self.assertIs(is_name((thing,)), False, repr(thing))
            self.assertIs(is_name((MARKS[0], thing)), False, repr(thing))
        for thing in [[], MARKS, "", "/", {}, {MARKS[0]: 1}, 0, False]:
            self.assertIs(is_name(thing), False, repr(thing))


class TextTests(unittest.TestCase):
    def refused(self, call, value):
        with self.assertRaises(InvalidName) as caught:
            call(value)
        self.assertIs(caught.exception.value, value)

    def test_the_example(self):
        told = [name_text((("open", "", 3), ("red", "pad", 12))), parse_name("open.3"), parse_name("/")]
        self.assertEqual(told, ["open.3+red.pad.12", (("open", "", 3),), ()])

    def test_the_empty_name(self):
        self.assertEqual([name_text(()), parse_name("/")], ["/", ()])

    def test_what_is_written_is_read_back(self):
        for many in range(4):
            for name in itertools.product(MARKS, repeat=many):
                self.assertEqual(parse_name(name_text(name)), name)

    def test_the_largest_number(self):
        self.assertEqual(parse_name("a.1000000000000000000"), (("a", "", LARGEST),))
        self.assertEqual(name_text((("a", "b", LARGEST),)), "a.b.1000000000000000000")

    def test_name_text_of_what_is_no_name(self):
        for thing in NO_MARKS:
            self.refused(name_text, thing)
            self.refused(name_text, (thing,))
        for thing in [[], [MARKS[0]], "/", "", "low.1", 0, {}]:
            self.refused(name_text, thing)

    def test_nothing_else_is_read(self):
        for text in ["", " ", "//", "/ ", " /", "/+low.1", "low.1+/", "low", "1", "low.", ".1", "low.1.", "low..1",
                     ".pad.1", "low.pad.", "low.pad", "low.pad.1.1", "low.pad.pad.1", "low.1.pad", "low.1.1",
                     "low.0", "low.01", "low.00", "low.pad.01", "low.-1", "low.+1", "low. 1", "low.1 ", " low.1",
                     "low.1\n", "low.1+", "+low.1", "low.1++low.2", "low.1 + low.2", "low.1,low.2", "low.1/low.2",
                     "Low.1", "low1.1", "abcdefghi.1", "low.abcdefghi.1", "low.Pad.1", "low.1_0", "low.1e3",
                     "low.\u0661", "low.\u00b2", "l\u00f6w.1", "low.1000000000000000001", "low.9999999999999999999",
                     "low.10000000000000000000", "low." + "9" * 5000, "low.True", "+", ".", "..", "-"]:
            self.refused(parse_name, text)

    def test_what_is_no_text_is_not_read(self):
        for thing in [None, 1, True, (), [], ["low.1"], b"low.1", b"/", {}, object(), mock.ANY, (("low", "", 1),)]:
            self.refused(parse_name, thing)

    def test_short_texts_are_read_only_if_they_are_written(self):
        written = {name_text(name): name for many in (0, 1, 2) for name in itertools.product(
            [("a", "", 1), ("a", "", 10), ("b", "a", 1), ("a", "b", 11), ("ab", "", 1)], repeat=many)}
        for many in range(6):
            for signs in itertools.product("a1.0+/", repeat=many):
                text = "".join(signs)
                try:
                    name = parse_name(text)
                except InvalidName:
                    self.assertNotIn(text, written)
                else:
                    self.assertEqual(name_text(name), text)


if __name__ == "__main__":
    unittest.main()
