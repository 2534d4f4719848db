"""[7] and [8]: what a vault is, and its methods."""

import unittest

from pastless.errors import NoName, NoState, NoVault
from pastless.vaults import Vault, begun, vault_of
from odd import ODD, nested, odd_but
from slow import K, UNSURE, V, W, Maker

CELL = [(3, 1)]
DEED = [("a", 1, ())]


def body(*rows, cells=2):
    """A vault with this body."""
    return Vault([(9, 0)] * cells, [("a", 1, tuple(rows))])


def deep_expression(deep):
    e = "x"
    for _ in range(deep):
        e = ("+", 1, e)
    return e


def deep_rows(deep, last=("keep", "a", 1)):
    """A row that has rows in it, the last one of which is so deep."""
    row = last
    for _ in range(deep - 1):
        row = ("if", 1, (), (row,))
    return row


def times(deep, last=()):
    rows = last
    for _ in range(deep):
        rows = (("if", 1, (("times", 2, rows),), ()),)
    return rows


class Bounds(unittest.TestCase):

    def wrong(self, part, cells, deeds):
        with self.assertRaises(NoVault) as caught:
            Vault(cells, deeds)
        self.assertEqual(caught.exception.part, part)

    def wrong_rows(self, *rows):
        self.wrong("deeds", [(9, 0)] * 2, [("a", 1, tuple(rows))])
        with self.assertRaises(NoVault) as caught:
            vault_of((((9, 0), (9, 0)), (("a", 1, tuple(rows)),)))
        self.assertEqual(caught.exception.part, "shape")

    def test_cells(self):
        for many in (1, 6):
            self.assertEqual(len(Vault([(1, 0)] * many, DEED).sizes()), many)
        for many in (0, 7):
            self.wrong("cells", [(1, 0)] * many, DEED)
        for cell in [(1, 0), (9, 0), (9, 8), (2, 1)]:
            self.assertEqual(Vault([cell], DEED).shape()[0], (cell,))
        for cell in [(0, 0), (10, 0), (9, 9), (2, 2), (1, 1), (3, -1), (-1, -1), (True, 0), (2, True), (2, False), [2, 0],
                     (2,), (2, 0, 0), ("2", 0), (2, "0"), (2, None), None, 2, "ab", ()]:
            self.wrong("cells", [(2, 0), cell], DEED)
        self.wrong("cells", ((2, 0),), DEED)
        self.wrong("cells", {(2, 0): 1}, DEED)

    def test_deeds(self):
        names = ["a", "b", "c", "d", "e", "f", "g", "h", "i"]
        self.assertEqual(Vault(CELL, [(name, 1, ()) for name in names[:8]]).names(), names[:8])
        self.wrong("deeds", CELL, [(name, 1, ()) for name in names])
        self.wrong("deeds", CELL, [])
        self.wrong("deeds", CELL, tuple(DEED))
        for name in ["a", "z", "abcdefgh", "azazazaz"]:
            Vault(CELL, [(name, 1, ())])
        for name in ["", "abcdefghi", "A", "a1", "a b", "a\n", "`", "{", None, 1, ("a",), b"a", True]:
            self.wrong("deeds", CELL, [(name, 1, ())])
        self.wrong("deeds", CELL, [("a", 1, ()), ("b", 1, ()), ("a", 2, ())])
        for choices in (1, 9):
            self.assertEqual(Vault(CELL, [("a", choices, ())]).choices("a"), choices)
        for choices in (0, 10, -1, True, "1", None, (1,)):
            self.wrong("deeds", CELL, [("a", choices, ())])
        for deed in [("a", 1), ("a", 1, (), ()), ["a", 1, ()], ("a", 1, []), ("a", 1, None), None, "a", ("a", (), 1)]:
            self.wrong("deeds", CELL, [deed])

    def test_cells_ahead_of_deeds(self):
        self.wrong("cells", [(2, 2)], [("a", 0, ())])
        self.wrong("cells", (), None)
        for value in ODD:
            self.wrong("cells", value, value)
            self.wrong("deeds", CELL, value)
            self.wrong("deeds", CELL, [value])
            self.wrong("cells", [value], DEED)

    def test_forms(self):
        good = [("read", "a", 0), ("read", "d", 1), ("set", 1, "x"), ("set", 0, 9), ("swap", "b", 1, "x", 3),
                ("keep", "c", ("<", "a", "x")), ("coin", "d"), ("if", "x", (), ()), ("if", 0, (("answer", 1),), ()),
                ("times", "x", ()), ("times", 9, (("set", 0, 1),)), ("answer", ("=", 1, 1))]
        for row in good:
            self.assertEqual(body(row).rows("a"), (row,))
            self.wrong_rows(row + (0,))
            self.wrong_rows(row[:-1])
            self.wrong_rows(list(row))
            self.wrong_rows((row[0] + "s",) + row[1:])
            self.wrong_rows((row,))
        for row in [("read", "x", 0), ("read", "e", 0), ("read", 0, "a"), ("read", "a", 2), ("read", "a", -1),
                    ("read", "a", True), ("set", "a", 0), ("set", 2, 0), ("set", False, 0), ("set", 0, 10), ("set", 0, -1),
                    ("set", 0, True), ("set", 0, "e"), ("set", 0, None), ("set", 0, "ab"), ("set", 0, ""), ("swap", "x", 0, 1, 1),
                    ("swap", "a", 2, 1, 1), ("swap", "a", 0, True, 1), ("swap", "a", 0, 1, False), ("keep", "x", 1),
                    ("coin", "x"), ("coin", "ab"), ("coin", 0), ("if", 1, [], ()), ("if", 1, (), []), ("if", 1, ((),), ()),
                    ("if", (), (), ()), ("if", 1, ("answer", 1), ()), ("times", (), ()), ("times", 1, [("answer", 1)]),
                    ("times", 10, ()), ("answer", "y"), ("answer", [1]), (), ((),), ("", 1), (1, 1), (None,)]:
            self.wrong_rows(row)
            self.wrong_rows(("if", 1, (row,), ()))
            self.wrong_rows(("times", 1, (("if", 1, (), (row,)),)))

    def test_expressions(self):
        for e in list(range(10)) + list("abcdx") + [(sign, "a", 9) for sign in "+-*=<"]:
            self.assertEqual(body(("answer", e)).rows("a"), (("answer", e),))
        for e in [10, -1, True, False, None, "e", "A", "", "ax", 1.0, ("+", 1), ("+", 1, 1, 1), ["+", 1, 1], ("/", 1, 1),
                  (">", 1, 1), ("+-", 1, 1), ("", 1, 1), (1, 1, 1), ("+", 10, 1), ("+", 1, True), ("a", "a", "a"), ((), 1, 1)]:
            self.wrong_rows(("answer", e))
            self.wrong_rows(("answer", ("+", e, 1)))
            self.wrong_rows(("answer", ("-", 1, e)))

    def test_depths(self):
        body(("answer", deep_expression(6)), ("set", 0, deep_expression(6)), ("swap", "a", 0, deep_expression(6), 1))
        self.wrong_rows(("answer", deep_expression(7)))
        self.wrong_rows(("swap", "a", 0, 1, ("+", deep_expression(6), 1)))
        body(deep_rows(12))
        body(deep_rows(12, ("if", 1, (), ())))
        self.wrong_rows(deep_rows(13))
        self.wrong_rows(deep_rows(12, ("times", 1, (("answer", 1),))))
        body(*times(2))
        body(*(times(2) + times(2, times(0))))
        self.wrong_rows(*times(3))
        self.wrong_rows(("if", 1, (), times(3)))

    def test_coins(self):
        coin = ("coin", "a")
        body(coin, coin, ("if", 1, (coin,), (coin,)))
        self.wrong_rows(coin, coin, ("if", 1, (coin,), (coin,)), coin)
        self.wrong_rows(("times", 1, (coin,)))
        self.wrong_rows(*times(2, (("if", 1, (), (("if", 1, (coin,), ()),)),)))
        self.wrong_rows(("times", 0, (("if", 1, (coin,), ()),)))
        Vault(CELL, [("a", 1, (coin,) * 4), ("b", 1, (coin,) * 4)])

    def test_many_rows(self):
        row = ("keep", "a", 1)
        body(*[row] * 2000)
        self.wrong_rows(*[row] * 2001)
        inner = (row,) * 99
        body(*[("times", 1, inner)] * 10, *[("if", 1, inner, ())] * 9, row, *[row] * 99)
        self.wrong_rows(*[("times", 1, inner)] * 10, *[("if", 1, (), inner)] * 10, row)
        Vault(CELL, [("a", 1, (row,) * 2000), ("b", 1, (row,) * 2000)])
        # One tuple that stands in very many places.
        rows = (row,) * 50
        for _ in range(10):
            rows = (("if", 1, rows, rows),) * 50
        self.wrong_rows(*rows)


class Methods(unittest.TestCase):

    def test_methods(self):
        self.assertEqual(W.sizes(), (2, 2))
        self.assertEqual(Vault([(3, 1), (9, 8)], DEED).first(), (1, 8))
        self.assertEqual(V.names(), ["put", "get"])
        self.assertEqual(V.choices("put"), 3)
        self.assertEqual(V.rows("put"), (("set", 0, "x"),))
        self.assertEqual(V.calls(), [("put", 0), ("put", 1), ("put", 2), ("get", 0)])
        self.assertEqual(V.shape(), (((3, 0),), (("put", 3, (("set", 0, "x"),)),
                                                 ("get", 1, (("read", "a", 0), ("answer", "a"))))))
        self.assertIs(V.has_coins(), False)
        self.assertIs(K.has_coins(), True)
        self.assertIs(body(("if", 0, (), (("if", 1, (("coin", "a"),), ()),))).has_coins(), True)
        self.assertIs(body(("answer", 0), ("coin", "a")).has_coins(), True)
        self.assertIs(Vault(CELL, [("a", 1, ()), ("coin", 1, ())]).has_coins(), False)

    def test_no_name(self):
        for value in odd_but("put") + ["pu", "putt", "get ", ["put"]]:
            with self.assertRaises(NoName):
                V.choices(value)
            with self.assertRaises(NoName):
                V.rows(value)

    def test_nothing_changes_it(self):
        cells, deeds = [(2, 0)], [("a", 2, (("answer", "x"),))]
        vault = Vault(cells, deeds)
        shape = (((2, 0),), (("a", 2, (("answer", "x"),)),))
        cells.append((3, 0))
        deeds[0] = None
        vault.names().append("b")
        vault.calls().clear()
        self.assertEqual(vault.shape(), shape)
        self.assertEqual(vault.names(), ["a"])
        self.assertEqual(vault.calls(), [("a", 0), ("a", 1)])
        self.assertIsNot(vault.calls(), vault.calls())
        self.assertIsNot(vault.names(), vault.names())

    def test_equal(self):
        again = vault_of(V.shape())
        self.assertTrue(again == V and not again != V)
        for other in [W, K, begun(V, (1,)), Vault([(3, 0)], [("put", 3, (("set", 0, "x"),))]), Vault([(4, 0)], list(V.shape()[1]))]:
            self.assertIs(V == other, False)
            self.assertIs(V != other, True)
        for value in [value for value in ODD if not isinstance(value, Vault)] + [V.shape()]:
            self.assertIs(V == value, False)

    def test_vault_of(self):
        for vault in [V, W, K, UNSURE] + [Maker(seed).vault(True) for seed in range(30)]:
            self.assertEqual(vault_of(vault.shape()).shape(), vault.shape())
            self.assertEqual(vault_of(vault.shape()), vault)
        cells, deeds = V.shape()
        wrong = ODD + [V, (cells,), (cells, deeds, ()), [cells, deeds], (list(cells), deeds), (cells, list(deeds)), (deeds, cells),
                       ((), deeds), (cells, ()), (([3, 0],), deeds), (((3, False),), deeds), (((3, 3),), deeds),
                       (cells, deeds + deeds), (cells, (["put", 1, ()],)), (cells, (("put", 1, []),)), (cells, (("put", True, ()),)),
                       (cells, (("put", 1, (["answer", 1],)),)), (cells, (("put", 1, (("answer", True),)),))]
        wrong += [(cells, (("put", 1, value),)) for value in ODD if value != ()]
        for value in wrong:
            with self.assertRaises(NoVault) as caught:
                vault_of(value)
            self.assertEqual(caught.exception.part, "shape")

    def test_begun(self):
        vault = Vault([(3, 1), (2, 0)], list(V.shape()[1]))
        other = begun(vault, (2, 1))
        self.assertEqual(other.shape(), (((3, 2), (2, 1)), V.shape()[1]))
        self.assertEqual(vault.first(), (1, 0))
        self.assertEqual(begun(other, (1, 0)), vault)
        for value in odd_but((0, 0)) + [(3, 0), (0, 2), (-1, 0), (0, 0, 0), [0, 0], (True, 0), (0, False), ("0", 0)]:
            with self.assertRaises(NoState):
                begun(vault, value)

    def test_deep(self):
        for kind in ("row", "sum", "twice", "list", "dict"):
            with self.assertRaises(NoVault):
                Vault(CELL, [("a", 1, (nested(kind),))])
            with self.assertRaises(NoVault):
                Vault(CELL, [("a", 1, (("answer", nested(kind)),))])


if __name__ == "__main__":
    unittest.main()
