"""[17]: readers."""

import unittest

from pastless.errors import NoCall, NoReader, NoRow, NoStand
from pastless.readers import Reader
from pastless.vaults import Vault
from odd import ODD, odd_but
from slow import K, V, W

PUT, ONE, GET = ("put", 0), ("put", 1), ("get", 0)


def table():
    """Was 1 ever put? [44]"""
    return {(0, PUT): 0, (0, ONE): 1, (0, GET): 0, (1, PUT): 1, (1, ONE): 1, (1, GET): 1}


class Parts(unittest.TestCase):

    def wrong(self, part, *parts):
        with self.assertRaises(NoReader) as caught:
            Reader(W, *parts)
        self.assertEqual(caught.exception.part, part)

    def test_many(self):
        for value in odd_but(1, 7) + [100001, 0]:
            self.wrong("many", value, None, None, None)
        Reader(W, 1, 0, {(0, call): 0 for call in W.calls()}, [])
        one = Vault([(1, 0)], [("a", 1, ())])
        great = Reader(one, 100000, 99999, {(stand, ("a", 0)): max(stand - 1, 0) for stand in range(100000)}, [0])
        self.assertIs(great.reads([("a", 0)] * 99999), True)
        self.assertIs(great.reads([("a", 0)] * 99998), False)

    def test_first(self):
        for value in odd_but(0, 1) + [2]:
            self.wrong("first", 2, value, None, None)
        self.wrong("first", 1, 1, None, None)

    def test_table(self):
        for value in ODD + [list(table().items()), tuple(table())]:
            self.wrong("table", 2, 0, value, None)
        for key, value in [((2, PUT), 0), ((-1, PUT), 0), ((0, ("put", 2)), 0), (PUT, 0), ((0, PUT, 0), 0), (0, 0), ("a", 0), (None, 0),
                           ((0, ("get", 1)), 0), ((None, PUT), 0), ((0, None), 0), (((), ()), 0)]:
            self.wrong("table", 2, 0, {**table(), key: value}, None)
            rows = table()
            del rows[(1, GET)]
            self.wrong("table", 2, 0, {**rows, key: value}, None)
        for key in table():
            less = table()
            del less[key]
            self.wrong("table", 2, 0, less, None)
            for value in odd_but(0, 1) + [2]:
                self.wrong("table", 2, 0, {**table(), key: value}, None)
        # Flags in the keys, which a dict takes for integers.
        less = table()
        del less[(1, PUT)]
        self.wrong("table", 2, 0, {**less, (True, PUT): 1}, None)
        less = table()
        del less[(1, ONE)]
        self.wrong("table", 2, 0, {**less, (1, ("put", True)): 1}, None)

    def test_marks(self):
        for value in odd_but([], [0]) + [(0,), [2], [-1], [1, 0], [0, 0], [0, 1, 1], [True], [False], [0, True], ["0"], {0: 1}, [0, None]]:
            self.wrong("marks", 2, 0, table(), value)
        for marks in ([], [0], [1], [0, 1]):
            reader = Reader(W, 2, 0, table(), marks)
            self.assertEqual([reader.marked(stand) for stand in (0, 1)], [stand in marks for stand in (0, 1)])

    def test_the_first_wrong_part(self):
        self.wrong("many", 0, 5, {}, None)
        self.wrong("first", 2, 5, {}, None)
        self.wrong("table", 2, 0, {}, None)
        self.wrong("marks", 2, 0, table(), None)

    def test_it_copies(self):
        rows, marks = table(), [1]
        reader = Reader(W, 2, 0, rows, marks)
        rows[(0, ONE)] = 0
        rows.clear()
        marks[0] = 0
        self.assertEqual(reader.after(0, ONE), 1)
        self.assertIs(reader.reads([ONE, PUT]), True)
        self.assertIs(reader.marked(0), False)

    def test_only_the_calls_count(self):
        other = Vault([(1, 0)], [("put", 2, (("coin", "a"),)), ("get", 1, ())])
        self.assertIs(Reader(other, 2, 0, table(), [1]).reads([ONE]), True)
        self.assertEqual(Reader(K, 1, 0, {(0, ("lay", 0)): 0}, [0]).many(), 1)


class Methods(unittest.TestCase):

    def setUp(self):
        self.reader = Reader(W, 2, 0, table(), [1])

    def test_parts(self):
        self.assertEqual((self.reader.many(), self.reader.first()), (2, 0))
        self.assertEqual(Reader(W, 2, 1, table(), []).first(), 1)
        for (stand, call), behind in table().items():
            self.assertEqual(self.reader.after(stand, call), behind)
        self.assertIs(self.reader.marked(0), False)
        self.assertIs(self.reader.marked(1), True)

    def test_errors(self):
        for value in odd_but(0, 1) + [2]:
            with self.assertRaises(NoStand):
                self.reader.after(value, None)
            with self.assertRaises(NoStand):
                self.reader.marked(value)
        for value in odd_but(PUT) + [("put", 2), ("get", 1), ("get", False), ["put", 0]]:
            with self.assertRaises(NoCall):
                self.reader.after(0, value)

    def test_reads(self):
        self.assertIs(self.reader.reads([]), False)
        self.assertIs(Reader(W, 2, 0, table(), [0]).reads([]), True)
        self.assertIs(self.reader.reads([PUT, GET, PUT]), False)
        self.assertIs(self.reader.reads([PUT, ONE, PUT, GET]), True)
        self.assertIs(self.reader.reads([PUT] * 5000), False)
        self.assertIs(self.reader.reads([ONE] + [PUT] * 5000), True)

    def test_no_row(self):
        for value in ODD + [(PUT,), PUT, {PUT: 0}]:
            if not isinstance(value, list):
                with self.assertRaises(NoRow) as caught:
                    self.reader.reads(value)
                self.assertEqual(caught.exception.index, -1)
        for value in odd_but(PUT) + [("put", 2), ("get", False), ["put", 0]]:
            with self.assertRaises(NoRow) as caught:
                self.reader.reads([PUT, GET, value, value])
            self.assertEqual(caught.exception.index, 2)

    def test_vault_with_more_calls(self):
        self.assertEqual(Reader(V, 1, 0, {(0, call): 0 for call in V.calls()}, [0]).reads([("put", 2)]), True)


if __name__ == "__main__":
    unittest.main()
