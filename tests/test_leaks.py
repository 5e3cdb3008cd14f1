"""Tests of the search for the shortest row of calls ([35], [4] (i))."""

import itertools
import unittest

from busy import ORDERS, busy_calls
from helpers import high, low
from maskededits.checker import first_leak
from maskededits.errors import InvalidLevel, InvalidNumber, NoFault
from maskededits.faults import FAULTS
from maskededits.leaks import shortest_finding
from maskededits.levels import Levels
from maskededits.losses import first_loss

LEVELS = Levels(["low", "high"])
POCKET = ("pocket", (), 0, "high", "p")
SECRET = ("insert", low(1), 0, "line", "s")
EMPTY, CLOCK, UNDO, REDO = ("script", ""), ("clock",), ("undo",), ("redo",)
# 391 steps, and 8 more: so many that there are too few as soon as two nodes were made.
COUNTING = "n = 0; while n < 55 { n = n + 1; } 1 + 1 + 1 + 1; 1;"
# For each fault a menu with which it shows, the length of the shortest row, and whether something is lost.
MENUS = {
    "numbers": ((("low", ("box", "high")), ("high", SECRET)), 3, False),
    "clock": ((("low", CLOCK), ("high", EMPTY)), 2, False),
    "hidden": ((("low", ("box", "high")), ("high", SECRET), ("low", ("delete", high(1)))), 3, False),
    "heavy": ((("low", POCKET), ("high", SECRET), ("low", ("delete", low(1)))), 3, False),
    "room": ((("low", ("box", "high")), ("high", SECRET), ("low", ("room",))), 3, False),
    "undos": ((("low", UNDO), ("high", EMPTY)), 2, False),
    "redos": ((("low", EMPTY), ("low", UNDO), ("low", REDO), ("high", EMPTY)), 4, False),
    "steps": ((("low", ("box", "high")), ("high", SECRET), ("low", ("script", COUNTING))), 3, False),
    "shown": ((("low", POCKET), ("high", SECRET), ("low", ("look",))), 3, False),
    "emptied": ((("low", POCKET), ("high", SECRET), ("low", ("delete", low(1)))), 3, True),
    "shallow": ((("low", POCKET), ("high", SECRET), ("low", ("copy", low(1), (), 0))), 3, True),
    "stolen": ((("low", POCKET), ("high", SECRET), ("low", ("copy", low(1), (), 0))), 3, True),
}


def searched(levels, menu, most, fault, losses, limit):
    """Returns the first row with a finding, of all rows in order."""
    for length in range(most + 1):
        for indexes in itertools.product(range(len(menu)), repeat=length):
            calls = tuple(menu[index] for index in indexes)
            found = (first_loss if losses else first_leak)(levels, list(calls), fault, limit)
            if found is not None:
                return calls, found
    return None


class SearchTests(unittest.TestCase):
    def test_the_example(self):
        menu = (("low", CLOCK), ("high", EMPTY))
        self.assertEqual(shortest_finding(LEVELS, menu, 3, "clock"), ((menu[1], menu[0]), (1, "low", ("told", 1), ("told", 0))))
        self.assertIsNone(shortest_finding(LEVELS, menu, 3, ""))

    def test_each_fault_shows(self):
        self.assertEqual(tuple(MENUS), FAULTS)
        for fault, (menu, many, losses) in MENUS.items():
            for limit in (2, 3, 40):
                found = shortest_finding(LEVELS, menu, 4, fault, losses=losses, limit=limit)
                self.assertIsNotNone(found, (fault, limit))
                calls, finding = found
                self.assertIsInstance(calls, tuple)
                self.assertEqual([len(calls), finding[0]], [many, many - 1], fault)
                self.assertEqual(finding, (first_loss if losses else first_leak)(LEVELS, calls, fault, limit))
                self.assertEqual(found, shortest_finding(LEVELS, menu, many, fault, losses=losses, limit=limit))
                self.assertIsNone(shortest_finding(LEVELS, menu, many - 1, fault, losses=losses, limit=limit))
                self.assertIsNone(shortest_finding(LEVELS, menu, 4, "", losses=losses, limit=limit))

    def test_leaks_and_losses(self):
        menu = MENUS["shown"][0]
        self.assertEqual(shortest_finding(LEVELS, menu, 4, "shown")[1][0], 2)
        self.assertEqual(shortest_finding(LEVELS, menu, 4, "shown", losses=True), (menu[:2], (1, "low", "changed", low(1))))
        self.assertEqual(shortest_finding(LEVELS, menu, 4, "shown", losses=False), shortest_finding(LEVELS, menu, 4, "shown"))
        self.assertIsNone(shortest_finding(LEVELS, MENUS["clock"][0], 4, "clock", losses=True))
        self.assertIsNone(shortest_finding(LEVELS, MENUS["emptied"][0], 4, "emptied", losses=False))

    def test_the_first_one_of_several_by_the_indexes_in_the_menu(self):
        one, two, three, four = ("high", EMPTY), ("low", CLOCK), ("high", ("script", "tell 1;")), ("low", ("clock",))
        for menu in itertools.permutations([one, two, three, four]):
            calls, found = shortest_finding(LEVELS, menu, 4, "clock")
            self.assertEqual(calls, (min(one, three, key=menu.index), two))

    def test_a_call_may_be_used_twice(self):
        menu = (("low", ("box", "high")), ("high", SECRET))
        self.assertEqual(shortest_finding(LEVELS, menu, 3, "numbers")[0], (menu[0], menu[1], menu[0]))
        self.assertIsNone(shortest_finding(LEVELS, menu, 2, "numbers"))

    def test_small_rows_and_menus(self):
        for fault in ("", *FAULTS):
            for losses in (False, True):
                menu = MENUS[fault][0] if fault else MENUS["clock"][0]
                for most in (0, 1):
                    self.assertIsNone(shortest_finding(LEVELS, menu, most, fault, losses=losses))
                self.assertIsNone(shortest_finding(LEVELS, menu[:1], 4, fault, losses=losses))

    def test_the_limit_counts(self):
        menu = (("low", POCKET), ("high", SECRET), ("low", ("insert", (), 0, "line", "")))
        found = shortest_finding(LEVELS, menu, 4, "room", limit=2)
        self.assertEqual(found, ((menu[0], menu[1], menu[0]), (2, "low", ("refused", "full", 2), ("told", low(2)))))
        self.assertIsNone(shortest_finding(LEVELS, menu, 4, "room"))

    def test_the_search_finds_what_is_first(self):
        for seed in range(14):
            levels = ORDERS[seed % len(ORDERS)]
            calls = busy_calls(seed, levels, 30)[0]
            menu = (*calls[:3], *calls[-2:])
            for fault in ("", "clock", "undos", "numbers"):
                for losses in (False, True):
                    self.assertEqual(shortest_finding(levels, menu, 3, fault, losses=losses, limit=5), searched(levels, menu, 3, fault, losses, 5))

    def test_wrong_arguments(self):
        menu = (("low", CLOCK),)
        for losses in (False, True):
            for most in (0, 2):
                for fault in [None, "none", 0, ["clock"]]:
                    with self.assertRaises(NoFault) as caught:
                        shortest_finding(LEVELS, menu, most, fault, losses=losses, limit=0)
                    self.assertIs(caught.exception.value, fault)
                with self.assertRaises(InvalidNumber):
                    shortest_finding(LEVELS, menu, most, "clock", losses=losses, limit=0)
                for level in [None, "none", ["low"]]:
                    with self.assertRaises(InvalidLevel) as caught:
                        shortest_finding(LEVELS, (*menu, (level, CLOCK)), most, "none", losses=losses)
                    self.assertIs(caught.exception.value, level)


class LevelsTests(unittest.TestCase):
    def test_leaks_of_levels_that_cannot_be_compared(self):
        levels = Levels(["low", "east", "west"])
        menu = (("east", CLOCK), ("west", EMPTY), ("low", CLOCK))
        self.assertEqual(shortest_finding(levels, menu, 4, "clock"), ((menu[1], menu[0]), (1, "east", ("told", 1), ("told", 0))))

    def test_each_fault_shows_with_the_least_two_of_many_levels(self):
        levels = Levels(["low", "high", "a", "b", "c"], [("high", "a"), ("a", "b")])
        for fault, (menu, many, losses) in MENUS.items():
            calls, found = shortest_finding(levels, menu, 4, fault, losses=losses, limit=2)
            self.assertEqual([len(calls), found[0]], [many, many - 1], fault)


if __name__ == "__main__":
    unittest.main()
