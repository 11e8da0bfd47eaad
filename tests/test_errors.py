"""The errors: their arguments, attributes, classes and bases."""

import unittest

from evenrules import errors
from helping import any_values, deep_tuple

PARAMETERS = {
    "BadRule": ["part"], "NoHalves": ["weight"], "BadNumber": ["value"], "BadTest": ["at"], "BadKey": ["value"],
    "NoKey": ["key"], "Taken": ["key"], "Overlap": ["key"], "Stuck": ["key"], "BadOther": ["part"],
    "BadDeeds": ["value"], "BadPages": ["at"], "BadText": ["line", "word"], "BadCommand": ["word"],
    "BadName": ["value"], "NoName": ["name"], "Nothing": [], "TooMany": ["what", "most"],
}


class ErrorsTest(unittest.TestCase):

    def test_base(self):
        self.assertEqual(errors.FairError.__bases__, (ValueError,))

    def test_each_stands_directly_below_the_base(self):
        for name in PARAMETERS:
            self.assertEqual(getattr(errors, name).__bases__, (errors.FairError,), name)

    def test_there_are_no_others(self):
        found = [name for name, item in vars(errors).items() if isinstance(item, type)]
        self.assertEqual(sorted(found), sorted([*PARAMETERS, "FairError"]))

    def test_by_position(self):
        for name, parameters in PARAMETERS.items():
            for value in any_values():
                values = [value, "second"][:len(parameters)]
                error = getattr(errors, name)(*values)
                self.assertEqual(vars(error), dict(zip(parameters, values)), name)

    def test_by_name(self):
        for name, parameters in PARAMETERS.items():
            values = {parameter: at for at, parameter in enumerate(parameters)}
            error = getattr(errors, name)(**values)
            self.assertEqual(vars(error), values, name)

    def test_they_can_be_raised_and_caught(self):
        for name, parameters in PARAMETERS.items():
            with self.assertRaises(errors.FairError):
                raise getattr(errors, name)(*parameters)

    def test_lists_that_were_passed_may_be_changed(self):
        inner = [1, {"a": [2]}]
        error = errors.BadNumber((inner, "x"))
        inner[1]["a"].append(3)
        inner.append(4)
        self.assertEqual(error.value, ([1, {"a": [2]}], "x"))

    def test_what_cannot_change_is_kept_as_it_is(self):
        for value in (deep_tuple(2000), (1, ("a", None)), "text"):
            self.assertIs(errors.BadNumber(value).value, value)

    def test_lists_at_any_depth(self):
        inner = []
        value = inner
        for _ in range(2000):
            value = (value,)
        error = errors.BadNumber(value)
        inner.append(1)
        value = error.value
        while isinstance(value, tuple):
            value = value[0]
        self.assertEqual(value, [])


if __name__ == "__main__":
    unittest.main()
