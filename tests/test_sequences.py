"""Tests of the longest lists that stand in the same order in two rows."""

import itertools
import unittest

from maskededits.sequences import longest_common, longest_rising


class SequenceTests(unittest.TestCase):
    def test_rising_numbers(self):
        for many in range(7):
            for numbers in itertools.permutations(range(many)):
                found = longest_rising(list(numbers))
                self.assertEqual(found, sorted(found))
                self.assertEqual(found, [number for number in numbers if number in found])
                longest = max(len(part) for size in range(many + 1) for part in itertools.combinations(numbers, size)
                              if list(part) == sorted(part))
                self.assertEqual(len(found), longest)

    def test_two_rows(self):
        self.assertIn(longest_common("abcd", "xbyaczd"), [["a", "c", "d"], ["b", "c", "d"]])
        self.assertEqual([longest_common("", "ab"), longest_common("ab", ""), longest_common("a", "b")], [[], [], []])
        self.assertEqual(len(longest_common("abc", "cba")), 1)
        self.assertEqual(longest_common([1, (2,), ()], [(2,), 1, ()])[-1], ())


if __name__ == "__main__":
    unittest.main()
