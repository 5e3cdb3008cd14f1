"""Tests of the exceptions, their bases and their fields (the interface; [3])."""

import unittest

from maskededits import errors

UNDER_MASK_ERROR = [
    "InvalidLevels", "InvalidLevel", "InvalidName", "InvalidNumber", "InvalidText", "InvalidQuery",
    "InvalidView", "InvalidMoment", "InvalidEdit", "BadRecords", "InvalidRights", "InvalidLine", "NoFault",
]
BASES = {name: (errors.MaskError, ["value"]) for name in UNDER_MASK_ERROR}
BASES["InvalidScript"] = (errors.MaskError, ["at"])
BASES["NotSeen"] = (KeyError, ["value"])
BASES["NoOffer"] = (KeyError, ["value"])
BASES["Refused"] = (RuntimeError, ["word", "value"])
BASES["NoRight"] = (RuntimeError, ["value"])
BASES["SameUser"] = (RuntimeError, ["value"])
BASES["Closed"] = (RuntimeError, [])
BASES["NoServer"] = (RuntimeError, [])


class Odd:
    """A value that is equal to everything and cannot be hashed or shown."""

    __hash__ = None

    def __eq__(self, other):
        return True

    def __repr__(self):
        raise ValueError("not to be shown")


def made(name):
    """Returns an exception of a class and what it was made of."""
    values = [object() for field in BASES[name][1]]
    return getattr(errors, name)(*values), values


class ErrorTests(unittest.TestCase):
    def test_mask_error_is_a_value_error(self):
        self.assertEqual(errors.MaskError.__bases__, (ValueError,))

    def test_each_class_stands_directly_under_its_base(self):
        for name, (base, _) in BASES.items():
            self.assertEqual(getattr(errors, name).__bases__, (base,), name)
            self.assertEqual(getattr(errors, name).__module__, "maskededits.errors", name)

    def test_each_class_is_caught_by_its_name_and_its_bases(self):
        for name, (base, _) in BASES.items():
            for kind in [getattr(errors, name), base, *base.__mro__]:
                if kind is object:
                    continue
                try:
                    raise made(name)[0]
                except kind as caught:
                    self.assertIs(type(caught), getattr(errors, name))

    def test_no_class_is_caught_by_another_one_of_the_list(self):
        for name in BASES:
            for other in BASES:
                if name != other:
                    self.assertFalse(issubclass(getattr(errors, name), getattr(errors, other)), (name, other))

    def test_those_outside_are_no_mask_errors(self):
        for name in ["NotSeen", "NoOffer", "Refused", "NoRight", "SameUser", "Closed", "NoServer"]:
            self.assertFalse(issubclass(getattr(errors, name), ValueError), name)

    def test_arguments_by_place_are_the_fields(self):
        for name, (_, fields) in BASES.items():
            error, values = made(name)
            for field, value in zip(fields, values):
                self.assertIs(getattr(error, field), value, name)

    def test_arguments_by_name_are_the_fields(self):
        for name, (_, fields) in BASES.items():
            values = {field: [field] for field in fields}
            error = getattr(errors, name)(**values)
            for field in fields:
                self.assertIs(getattr(error, field), values[field], name)

    def test_too_many_and_too_few_arguments(self):
        for name, (_, fields) in BASES.items():
            with self.assertRaises(TypeError, msg=name):
                getattr(errors, name)(*fields, "more")
            if fields:
                with self.assertRaises(TypeError, msg=name):
                    getattr(errors, name)(*fields[1:])

    def test_an_error_is_made_of_any_value(self):
        deep = ()
        for _ in range(100000):
            deep = (deep,)
        for value in [Odd(), None, [], {}, deep, True]:
            self.assertIs(errors.InvalidName(value).value, value)
            self.assertIs(errors.NotSeen(value).value, value)


if __name__ == "__main__":
    unittest.main()
