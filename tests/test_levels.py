"""Tests of words and of the class Levels ([2], [3], [5], [6])."""

import itertools
import unittest
from unittest import mock

from maskededits.errors import InvalidLevel, InvalidLevels
from maskededits.levels import Levels, is_word

EIGHT = ["a", "b", "c", "d", "e", "f", "g", "h"]
DIAMOND = (["open", "red", "blue", "top"], [("red", "top"), ("blue", "top")])
NO_LEVELS = ["", "Open", "nine", 3, True, None, ("open",), ["open"], {"open": 1}, b"open", mock.ANY]


class WordTests(unittest.TestCase):
    def test_words(self):
        for word in ["a", "z", "low", "abcdefgh", "qqqqqqqq"]:
            self.assertIs(is_word(word), True, word)

    def test_what_is_no_word(self):
        for thing in ["", "abcdefghi", "Low", "low1", "lo w", "low\n", "lo_w", "\u00e9", "\u00df", "\u0430", "-",
                      "`", "{", None, 1, True, b"low", ["a"], ("a",), {"a": 1}, object(), mock.ANY]:
            self.assertIs(is_word(thing), False, repr(thing))


class MakingTests(unittest.TestCase):
    def refused(self, value, *arguments, **named):
        with self.assertRaises(InvalidLevels) as caught:
            Levels(*arguments, **named)
        self.assertIs(caught.exception.value, value)

    def test_one_and_eight_levels(self):
        self.assertEqual(Levels(["one"]).names(), ["one"])
        self.assertEqual(Levels(EIGHT).names(), EIGHT)

    def test_none_and_nine_levels(self):
        for names in [[], (), EIGHT + ["i"], tuple(EIGHT) + ("i",)]:
            self.refused(names, names)

    def test_a_level_that_stands_twice(self):
        names = ["a", "b", "a"]
        self.refused(names, names)

    def test_names_as_list_and_tuple(self):
        self.assertEqual(Levels(["a", "b"]), Levels(("a", "b")))

    def test_names_as_other_things(self):
        for names in [None, "ab", "a", 3, True, {"a": 1}, {"a"}, iter(["a"]), object()]:
            self.refused(names, names)

    def test_names_of_other_things(self):
        for thing in ["", "A", "a1", "abcdefghi", None, 1, True, [], ("a",), mock.ANY]:
            names = ["low", thing]
            self.refused(names, names)

    def test_pairs_as_list_and_tuple(self):
        one = Levels(["a", "b", "c"], [("b", "c")])
        self.assertEqual(one, Levels(["a", "b", "c"], (("b", "c"),)))
        self.assertEqual(one, Levels(names=["a", "b", "c"], pairs=[("b", "c"), ("b", "c"), ("a", "c")]))

    def test_pairs_as_other_things(self):
        for pairs in [None, 3, True, "bc", {("b", "c"): 1}, {("b", "c")}, iter([("b", "c")]), object()]:
            self.refused(pairs, ["a", "b", "c"], pairs)

    def test_pairs_that_are_no_tuples_of_two(self):
        for pair in [["b", "c"], ("b",), ("a", "b", "c"), (), "bc", None, 1, mock.ANY]:
            pairs = [("a", "b"), pair]
            self.refused(pairs, ["a", "b", "c"], pairs)

    def test_pairs_that_name_what_is_no_level(self):
        for low, high in [("a", "x"), ("x", "a"), ("a", []), ([], "b"), (1, "b"), ("a", None), ("A", "b"),
                          ("a", mock.ANY), (mock.ANY, "c")]:
            pairs = [(low, high)]
            self.refused(pairs, ["a", "b", "c"], pairs)

    def test_low_must_stand_ahead_of_high(self):
        for pair in [("c", "b"), ("b", "a"), ("b", "b"), ("a", "a")]:
            pairs = (pair,)
            self.refused(pairs, ["a", "b", "c"], pairs)

    def test_names_come_first(self):
        names, pairs = ["a", "a"], [("b", "a")]
        self.refused(names, names, pairs)
        self.refused(names, pairs=pairs, names=names)

    def test_what_is_passed_in_is_neither_kept_nor_changed(self):
        names, pairs = ["a", "b", "c"], [("b", "c")]
        levels = Levels(names, pairs)
        self.assertEqual([names, pairs], [["a", "b", "c"], [("b", "c")]])
        names.append("d")
        pairs.clear()
        names[0] = "z"
        self.assertEqual(levels.names(), ["a", "b", "c"])
        self.assertTrue(levels.leq("b", "c"))
        self.assertEqual(levels, Levels(["a", "b", "c"], [("b", "c")]))

    def test_what_is_returned_is_new(self):
        levels = Levels(*DIAMOND)
        for call in [levels.names, lambda: levels.downs("top"), lambda: levels.ups("open")]:
            first = call()
            kept = list(first)
            first.clear()
            self.assertEqual(call(), kept)
        self.assertEqual(levels, Levels(*DIAMOND))


class OrderTests(unittest.TestCase):
    def test_the_example(self):
        levels = Levels(["open", "red", "blue", "top"], [("red", "top"), ("blue", "top")])
        told = [levels.leq("open", "blue"), levels.above("top", "red"), levels.downs("red"),
                levels.meet("red", "blue"), levels.join("red", "blue")]
        self.assertEqual(told, [True, True, ["open", "red"], "open", "top"])

    def test_least_names_and_length(self):
        levels = Levels(*DIAMOND)
        self.assertEqual([levels.least, levels.names(), len(levels)], ["open", DIAMOND[0], 4])
        self.assertIsInstance(Levels.__dict__["least"], property)

    def test_the_first_is_below_all_others(self):
        levels = Levels(EIGHT)
        for one, other in itertools.product(EIGHT, EIGHT):
            self.assertIs(levels.leq(one, other), one == other or one == "a")
            self.assertIs(levels.above(one, other), one != other and other == "a")

    def test_several_pairs_in_a_row(self):
        for pairs in itertools.permutations([("b", "c"), ("c", "e"), ("e", "h")]):
            levels = Levels(EIGHT, pairs)
            self.assertTrue(levels.leq("b", "h"))
            self.assertTrue(levels.above("h", "b"))
            self.assertFalse(levels.leq("h", "b"))
            self.assertFalse(levels.leq("d", "h"))
            self.assertEqual(levels.downs("h"), ["a", "b", "c", "e", "h"])
            self.assertEqual(levels.ups("b"), ["b", "c", "e", "h"])

    def test_leq_and_above_of_one_level(self):
        levels = Levels(*DIAMOND)
        for level in levels.names():
            self.assertIs(levels.leq(level, level), True)
            self.assertIs(levels.above(level, level), False)

    def test_downs_and_ups_stand_in_the_order_of_names(self):
        levels = Levels(["l", "z", "y", "x", "t"], [("y", "t"), ("z", "t"), ("x", "t")])
        self.assertEqual(levels.downs("t"), ["l", "z", "y", "x", "t"])
        self.assertEqual(levels.ups("l"), ["l", "z", "y", "x", "t"])
        self.assertEqual([levels.downs("l"), levels.ups("t")], [["l"], ["t"]])

    def test_meet_and_join_of_comparable_levels(self):
        levels = Levels(*DIAMOND)
        self.assertEqual([levels.meet("red", "top"), levels.join("top", "red")], ["red", "top"])
        self.assertEqual([levels.meet("red", "red"), levels.join("red", "red")], ["red", "red"])
        self.assertEqual([levels.meet("open", "top"), levels.join("open", "top")], ["open", "top"])

    def test_there_is_no_join(self):
        self.assertIsNone(Levels(["open", "red", "blue"]).join("red", "blue"))

    def test_two_that_cannot_be_compared_are_no_meet_and_no_join(self):
        pairs = [("a", "c"), ("a", "d"), ("b", "c"), ("b", "d")]
        levels = Levels(["o", "a", "b", "c", "d"], pairs)
        self.assertIsNone(levels.meet("c", "d"))
        self.assertIsNone(levels.join("a", "b"))
        self.assertEqual(levels.meet("a", "b"), "o")
        more = Levels(["o", "a", "b", "m", "c", "d"], [("a", "m"), ("b", "m"), ("m", "c"), ("m", "d")])
        self.assertEqual([more.meet("c", "d"), more.join("a", "b")], ["m", "m"])

    def test_meet_and_join_by_their_definition(self):
        names = ["a", "b", "c", "d", "e"]
        possible = list(itertools.combinations(names[1:], 2))
        for many in range(len(possible) + 1):
            for pairs in itertools.combinations(possible, many):
                levels = Levels(names, pairs)
                for one, other in itertools.product(names, names):
                    lower = [x for x in names if levels.leq(x, one) and levels.leq(x, other)]
                    upper = [x for x in names if levels.leq(one, x) and levels.leq(other, x)]
                    greatest = [x for x in lower if all(levels.leq(y, x) for y in lower)] + [None]
                    least = [x for x in upper if all(levels.leq(x, y) for y in upper)] + [None]
                    self.assertEqual(levels.meet(one, other), greatest[0])
                    self.assertEqual(levels.join(one, other), least[0])


class CheckTests(unittest.TestCase):
    def refused(self, value, call, *arguments):
        with self.assertRaises(InvalidLevel) as caught:
            call(*arguments)
        self.assertIs(caught.exception.value, value)

    def test_check(self):
        levels = Levels(*DIAMOND)
        self.assertEqual([levels.check(level) for level in levels.names()], [None] * 4)
        for value in NO_LEVELS:
            self.refused(value, levels.check, value)

    def test_calls_of_one_level(self):
        levels = Levels(*DIAMOND)
        for value in NO_LEVELS:
            self.refused(value, levels.downs, value)
            self.refused(value, levels.ups, value)

    def test_calls_of_two_levels_look_from_left_to_right(self):
        levels = Levels(*DIAMOND)
        for call in [levels.leq, levels.above, levels.meet, levels.join]:
            for value in NO_LEVELS:
                self.refused(value, call, value, "top")
                self.refused(value, call, "open", value)
                self.refused(value, call, value, [])


class EqualityTests(unittest.TestCase):
    def test_equal_ones(self):
        self.assertEqual(Levels(*DIAMOND), Levels(*DIAMOND))
        one = Levels(["a", "b", "c", "d"], [("b", "c"), ("c", "d")])
        self.assertTrue(one == Levels(["a", "b", "c", "d"], [("c", "d"), ("b", "c"), ("b", "d"), ("a", "d")]))
        self.assertFalse(one != Levels(["a", "b", "c", "d"], [("c", "d"), ("b", "c"), ("b", "d")]))

    def test_the_order_of_names_counts(self):
        self.assertFalse(Levels(["a", "b", "c"]) == Levels(["a", "c", "b"]))

    def test_others(self):
        one = Levels(["a", "b", "c"], [("b", "c")])
        for other in [Levels(["a", "b", "c"]), Levels(["a", "b", "d"], [("b", "d")]), Levels(["a", "b"]),
                      Levels(["a", "c", "b"], [("c", "b")])]:
            self.assertFalse(one == other)
            self.assertTrue(one != other)

    def test_what_is_no_levels(self):
        levels = Levels(["a", "b"])
        for thing in [["a", "b"], ("a", "b"), "ab", None, 2, True, {"a": 1}, object(), mock.ANY]:
            self.assertFalse(levels == thing)
            self.assertTrue(levels != thing)


if __name__ == "__main__":
    unittest.main()
