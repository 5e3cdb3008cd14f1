"""Tests of the search for loops and comprehensions that change what they walk (rule L23 of LANGUAGE.md)."""

import textwrap
import unittest

from walks import rows_that_change

# Bodies of a method of a class with the attributes rows and table; the loop is the last statement.
WRONG = {
    "an item is assigned": "for each in self.table:\n    self.table[each] = []",
    "an item is assigned in a deeper statement": "for each in self.table:\n    if each:\n        while each:\n            self.table[each] = 1",
    "an item is assigned among others": "for each in self.table:\n    one, (self.table[each], other) = each",
    "several targets": "for each in self.table:\n    one = self.table[each] = 1",
    "an item is increased": "for each in self.table:\n    self.table[each] += 1",
    "an item is deleted": "for each in self.table:\n    del self.table[each]",
    "a slice is assigned": "for each in xs:\n    xs[1:2] = [each]",
    "a list is increased": "for each in xs:\n    xs += [each]",
    "append": "for each in xs:\n    xs.append(each)",
    "ahead of a return": "for each in xs:\n    xs.append(each)\n    return each",
    "pop in an expression": "for each in xs:\n    one = [each, xs.pop()]",
    "update": "for each in self.table:\n    self.table.update({each: 1})",
    "setdefault": "for each in self.table:\n    self.table.setdefault(each, 1)",
    "sort": "for each in xs:\n    xs.sort()",
    "enumerate": "for at, each in enumerate(xs):\n    xs[at] = each",
    "zip": "for one, other in zip(ys, xs):\n    xs.append(one)",
    "reversed": "for each in reversed(xs):\n    xs.remove(each)",
    "items": "for key, value in self.table.items():\n    self.table[key] = value",
    "keys": "for key in self.table.keys():\n    self.table[key] = 1",
    "values": "for value in self.table.values():\n    self.table[value] = 1",
    "one in another": "for at, (key, value) in enumerate(zip(xs, self.table.items()), start=1):\n    self.table[key] = at",
    "a conditional expression": "for each in xs if ys else self.rows:\n    self.rows.append(each)",
    "or": "for each in xs or ys:\n    ys.append(each)",
    "and": "for each in xs and ys:\n    xs.clear()",
    "an item is walked": "for each in self.table[xs]:\n    self.table[xs].append(each)",
    "an item with another index": "for each in self.table[xs]:\n    self.table[ys].append(each)",
    "the outer loop": "for one in xs:\n    for other in ys:\n        xs.append(other)",
    "the inner loop": "for one in xs:\n    for other in one.ys:\n        one.ys.append(other)",
    "another name": "rows = self.rows\nfor each in rows:\n    self.rows.append(each)",
    "another name is changed": "table = self.table\nfor each in self.table:\n    table[each] = 1",
    "two other names": "one = self.table\nother = one\nfor each in one:\n    other[each] = 1",
    "another name of the object": "me = self\nfor each in self.rows:\n    me.rows.append(each)",
    "a name of a choice": "rows = xs if ys else self.rows\nfor each in self.rows:\n    rows.append(each)",
    "a method that changes it": "for each in self.rows:\n    self.put(each)",
    "a method that calls such a one": "for each in self.rows:\n    self.put_twice(each)",
    "a method of another object": "for each in self.rows:\n    xs.put(each)",
    "a function that changes its argument": "for each in xs:\n    fill(each, xs)",
    "a function that passes it on": "for each in xs:\n    pass_on(xs)",
    "by keyword": "for each in xs:\n    fill(1, rows=xs)",
    "a method with an argument": "for each in xs:\n    self.fill_both(each, xs)",
    "a comprehension": "return [xs.pop() for each in xs]",
    "the test of a comprehension": "return {each: 1 for each in xs if xs.pop()}",
    "a comprehension of a set": "return len({xs.pop() for each in xs})",
    "a generator expression": "return list(xs.pop() for each in xs)",
    "a loop over a generator expression": "for each in (one for one in xs):\n    xs.append(each)",
    "the second part of a comprehension": "return [one for each in xs for one in self.rows if self.rows.pop()]",
    "a later part of a comprehension": "return [one for each in xs for one in xs.pop()]",
    "what a generator was passed": "for each in steps(xs):\n    xs.append(each)",
    "by a keyword to a generator": "for each in steps(rows=xs):\n    xs.append(each)",
    "what a generator walks": "for each in self.walk():\n    self.rows.append(each)",
    "what a generator of another object walks": "for each in xs.walk():\n    self.rows.append(each)",
    "what a generator yields from": "for each in self.all_keys():\n    self.table[each] = 1",
    "a copy of a generator in the head": "for each in list(self.walk()):\n    self.rows.append(each)",
    "a generator in enumerate": "for at, each in enumerate(self.walk()):\n    self.put(each)",
    "what is walked in a nested function": "def inside():\n    for each in xs:\n        xs.append(each)\nreturn inside",
}
RIGHT = {
    "a list of it": "for each in list(self.table):\n    self.table[each] = []",
    "a tuple of it": "for each in tuple(xs):\n    xs.append(each)",
    "in order": "for each in sorted(self.table):\n    del self.table[each]",
    "a slice": "for each in xs[1:]:\n    xs.append(each)",
    "a list of its items": "for key, value in list(self.table.items()):\n    self.table[key] = 1",
    "a list in enumerate": "for at, each in enumerate(list(xs)):\n    xs[at] = each",
    "a comprehension in the head": "for each in [one for one in xs]:\n    xs.append(each)",
    "another list": "for each in xs:\n    ys.append(each)",
    "another attribute": "for each in self.rows:\n    self.table[each] = 1",
    "an attribute of another object": "for each in xs.rows:\n    self.rows.append(each)",
    "what an item holds": "for each in self.table:\n    self.table[each].append(1)",
    "what it walks is an item, and the item is another one now": "for each in self.table[1]:\n    self.table[2] = each",
    "the members": "for each in xs:\n    each.append(1)",
    "behind the loop": "for each in xs:\n    ys.append(each)\nxs.clear()",
    "else": "for each in xs:\n    ys.append(each)\nelse:\n    xs.clear()",
    "a new value for the name": "for each in xs:\n    xs = [*xs, each]",
    "a loop with while": "while xs:\n    xs.pop()",
    "a copy by another name": "rows = list(self.rows)\nfor each in rows:\n    self.rows.append(each)",
    "a generator by another name": "rows = list(self.walk())\nfor each in rows:\n    self.rows.append(each)",
    "a method that changes another attribute": "for each in self.table:\n    self.put(each)",
    "a function that changes another argument": "for each in xs:\n    fill(xs, ys)",
    "a comprehension that changes another list": "return [ys.pop() for each in xs]",
    "the first part of a comprehension": "return [one for each in self.rows.pop() for one in xs]",
    "range": "for at in range(len(xs)):\n    xs[at] = 1",
}
AROUND = """
def fill(one, rows):
    rows.append(one)


def pass_on(things):
    same = things
    fill(1, same)


def steps(rows):
    for each in rows:
        yield each


class Box:
    def __init__(self, rows):
        self.rows = rows
        self.table = {}

    def put(self, row):
        self.rows.append(row)

    def put_twice(self, row):
        self.put(row)
        self.put(row)

    def fill_both(self, one, rows):
        fill(one, rows)

    def walk(self):
        for each in self.rows:
            yield each

    def all_keys(self):
        yield from self.table
"""
HEAD = "class Other:\n    def work(self, xs, ys):\n"


def rows_found(body):
    """Returns the rows of the file around that are found, and those of the body, from 1 on."""
    around, rows = rows_that_change(AROUND, HEAD + textwrap.indent(body, " " * 8))
    return around, [row - HEAD.count("\n") for row in rows]


class WalkTests(unittest.TestCase):
    def test_what_changes_what_it_walks(self):
        for word, body in WRONG.items():
            with self.subTest(word):
                around, rows = rows_found(body)
                self.assertEqual(around, [])
                self.assertEqual(len(rows), 1, rows)

    def test_what_changes_other_things(self):
        for word, body in RIGHT.items():
            with self.subTest(word):
                self.assertEqual(rows_found(body), ([], []))

    def test_rows_of_several_loops(self):
        body = "for one in xs:\n    ys.append(one)\nfor one in xs:\n    xs.append(one)\nreturn [xs.pop() for one in xs]"
        self.assertEqual(rows_found(body), ([], [3, 5]))

    def test_the_row_that_was_found_once(self):
        body = "steps = []\nfor each in self.undos:\n    self.undos[each] = other.undos[each][:1]\nself.put(1)"
        self.assertEqual(rows_found(body), ([], [2]))
        self.assertEqual(rows_found(body.replace("self.undos:", "list(self.undos):")), ([], []))


if __name__ == "__main__":
    unittest.main()
