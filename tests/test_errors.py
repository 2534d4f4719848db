"""[5] and the list of errors in the interface."""

import unittest

from pastless import errors
from slow import V

PLAIN = """NoName NoState NoCall NoCoins CoinsOut HasCoins NotSure NotComing NoMost NoNames OtherCalls NoStand NoStruck
NoContent TooWide NoSizes NoLayouts NoSize NoHand Busy NotBusy NoRule NoChoice OtherSizes NoCut NoBack NotPlain NoLook
NoExpression NoLine NothingDone""".split()

FIELDS = {"NoVault": "part", "NoReader": "part", "NoWish": "part", "TooMany": "most", "NoRow": "index",
          "NoWeaving": "index", "NoText": "line"}


class Errors(unittest.TestCase):

    def test_bases(self):
        self.assertEqual(errors.PastError.__bases__, (ValueError,))
        for name in PLAIN + list(FIELDS):
            self.assertEqual(getattr(errors, name).__bases__, (errors.PastError,), name)

    def test_no_other_errors(self):
        found = {name for name, thing in vars(errors).items() if isinstance(thing, type)}
        self.assertEqual(found, {"PastError"} | set(PLAIN) | set(FIELDS))

    def test_without_fields(self):
        for name in PLAIN:
            with self.assertRaises(errors.PastError) as caught:
                raise getattr(errors, name)()
            self.assertEqual(vars(caught.exception), {}, name)
            str(caught.exception)

    def test_fields(self):
        values = [None, True, False, 0, 1, -1, 10 ** 5000, "", "cells", [], [1, [2]], (), (1, (2, [3], {4: 5})), {},
                  {"a": [1]}, V, b"x", 1.5]
        for name, field in FIELDS.items():
            for value in values:
                error = getattr(errors, name)(value)
                kept = getattr(error, field)
                self.assertEqual(kept, value, name)
                self.assertIs(type(kept), type(value), name)
                self.assertEqual(list(vars(error)), [field])
                str(error)
                repr(error)


if __name__ == "__main__":
    unittest.main()
