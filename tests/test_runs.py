"""[8], [9] and [10]: what the rows do, and running calls and rows of calls."""

import itertools
import unittest
from fractions import Fraction
from math import gcd

from pastless.errors import CoinsOut, HasCoins, NoCall, NoCoins, NoRow, NoState
from pastless.runs import answered, called, led, outcomes, share, steps
from pastless.vaults import Vault
import slow
from odd import ODD, odd_but
from slow import K, LOOSE, UNSURE, V, W, Maker


def run(rows, state=(0, 0), argument=0, coins=(), sizes=(9, 9)):
    """What a body answers, and the state behind it."""
    vault = Vault([(size, 0) for size in sizes], [("a", 9, tuple(rows))])
    return called(vault, state, ("a", argument), list(coins))


def answer(e, argument=0, ahead=()):
    return run(tuple(ahead) + (("answer", e),), argument=argument)[0]


class Rows(unittest.TestCase):

    def test_expressions(self):
        for e in range(10):
            self.assertEqual(answer(e), e)
        for left, right in itertools.product(range(10), repeat=2):
            self.assertEqual(answer(("+", left, right)), (left + right) % 10)
            self.assertEqual(answer(("-", left, right)), (left - right) % 10)
            self.assertEqual(answer(("*", left, right)), left * right % 10)
            self.assertEqual(answer(("=", left, right)), int(left == right))
            self.assertEqual(answer(("<", left, right)), int(left < right))
        self.assertEqual(answer(("-", ("+", 7, 8), ("*", "x", ("+", "x", 1))), 3), 3)

    def test_registers_at_the_beginning(self):
        for argument in range(9):
            self.assertEqual(answer("x", argument), argument)
            for name in "abcd":
                self.assertEqual(answer(name, argument), 0)
        vault = Vault([(9, 0)], [("a", 1, (("answer", "b"), )), ("b", 1, (("keep", "b", 7),))])
        self.assertEqual(answered(vault, [("b", 0), ("a", 0)]), [0, 0])

    def test_read_set_keep(self):
        self.assertEqual(run([("read", "c", 1), ("answer", "c")], (3, 5)), (5, (3, 5)))
        self.assertEqual(run([("set", 0, "x"), ("set", 1, ("+", "x", 1))], (8, 8), 4), (0, (4, 5)))
        self.assertEqual(run([("keep", "d", 9), ("answer", ("+", "d", "d"))]), (8, (0, 0)))
        for size in range(1, 10):
            for value in range(10):
                self.assertEqual(run([("set", 1, value)], (0, 0), sizes=(2, size)), (0, (0, value % size)))

    def test_swap(self):
        for size, held, old, new in itertools.product((1, 2, 3, 9), range(9), range(10), (0, 4, 9)):
            if held < size:
                got = run([("keep", "b", 5), ("swap", "b", 1, old, new), ("answer", ("+", "b", 3))], (1, held), sizes=(2, size))
                hit = held == old
                self.assertEqual(got, (4 if hit else 3, (1, new % size if hit else held)))
        self.assertEqual(run([("keep", "a", 2), ("swap", "a", 0, "a", ("+", "a", 1))], (2, 0)), (0, (3, 0)))

    def test_if(self):
        rows = [("if", "x", (("set", 0, 1),), (("set", 0, 2),)), ("if", ("=", "x", 3), (("answer", 5),), ()), ("answer", 6)]
        self.assertEqual(run(rows, argument=0), (6, (2, 0)))
        self.assertEqual(run(rows, argument=1), (6, (1, 0)))
        self.assertEqual(run(rows, argument=3), (5, (1, 0)))
        self.assertEqual(run([("if", 1, (), (("answer", 1),)), ("if", 0, (("answer", 2),), ())]), (0, (0, 0)))

    def test_times(self):
        grow = ("keep", "a", ("+", "a", 1))
        for many in range(9):
            self.assertEqual(answer("a", many, [("times", "x", (grow,))]), many)
        # The value is worked out once, whatever the rounds do.
        self.assertEqual(answer("a", 0, [("keep", "a", 3), ("times", "a", (grow, grow))]), 9)
        self.assertEqual(answer("a", 0, [("keep", "b", 4), ("times", "b", (grow, ("keep", "b", 0)))]), 4)
        self.assertEqual(answer("a", 0, [("times", 3, (("times", 7, (grow,)), grow))]), 4)
        self.assertEqual(answer("a", 0, [("times", 9, (("times", 9, (grow,)),))]), 1)
        self.assertEqual(answer("a", 0, [("times", 3, (("times", "a", (grow,)), grow))]), 7)
        self.assertEqual(answer("a", 0, [("times", 0, (grow,)), ("times", 9, ())]), 0)

    def test_answer_amid(self):
        grow = ("set", 0, "a")
        rows = [("times", 9, (("keep", "a", ("+", "a", 1)), grow, ("if", ("=", "a", 4), (("times", 2, (("answer", 7),)),), ()))),
                ("set", 1, 8)]
        self.assertEqual(run(rows), (7, (4, 0)))
        self.assertEqual(run([("answer", 0), ("set", 0, 1)]), (0, (0, 0)))
        self.assertEqual(run([("if", 0, (), (("answer", 3), ("set", 0, 1)))]), (3, (0, 0)))

    def test_end(self):
        self.assertEqual(run([]), (0, (0, 0)))
        self.assertEqual(run([("keep", "a", 5)]), (0, (0, 0)))

    def test_largest_bodies(self):
        grow = ("keep", "a", ("+", "a", 1))
        self.assertEqual(answer("a", 0, [grow] * 1999), 9)
        # 81 rounds of 1996 rows.
        rows = [("times", 9, (("times", 9, (("keep", "b", ("+", "b", 1)),) + (grow,) * 1995),)), ("set", 0, "b"), ("answer", "a")]
        self.assertEqual(run(rows), (81 * 1995 % 10, (1, 0)))
        row = ("set", 0, ("+", "x", 1))
        for _ in range(11):
            row = ("if", "x", (row,), ())
        self.assertEqual(run([row], argument=3), (0, (4, 0)))


class Running(unittest.TestCase):

    def test_steps(self):
        rows = (("read", "b", 1), ("keep", "a", 1), ("set", 0, 7), ("swap", "c", 0, 1, 9), ("swap", "d", 0, 1, 9),
                ("times", 2, (("if", 1, (("set", 1, "b"),), ()),)), ("answer", 5), ("set", 0, 0))
        vault = Vault([(3, 0), (4, 0)], [("a", 1, rows)])
        self.assertEqual(steps(vault, (2, 3), ("a", 0), []),
                         [("read", 1, 3, (2, 3)), ("set", 0, 1, (1, 3)), ("swap", 0, 1, (0, 3)), ("swap", 0, 0, (0, 3)),
                          ("set", 1, 3, (0, 3)), ("set", 1, 3, (0, 3))])
        self.assertEqual(steps(vault, (0, 0), ("a", 0), [1, 0, 1, 1])[0], ("read", 1, 0, (0, 0)))
        self.assertEqual(steps(Vault([(1, 0)], [("a", 1, (("answer", 1),))]), (0,), ("a", 0), []), [])
        self.assertEqual(called(vault, (2, 3), ("a", 0), []), (5, (0, 3)))

    def test_falls(self):
        for falls in itertools.product((0, 1), repeat=4):
            self.assertEqual(called(K, (0,), ("lay", 0), list(falls)), (1, (1 + falls[0],)))
            self.assertEqual(called(K, (0,), ("lay", 0), list(falls[:1])), (1, (1 + falls[0],)))
            self.assertEqual(steps(K, (2,), ("lay", 0), list(falls)), [("read", 0, 2, (2,))])
        self.assertEqual(called(K, (2,), ("lay", 0), []), (0, (2,)))
        for what in (called, steps):
            with self.assertRaises(CoinsOut):
                what(K, (0,), ("lay", 0), [])

    def test_outcomes(self):
        coin = ("coin", "a")
        rows = (coin, ("if", "a", (("coin", "b"), ("set", 0, "b")), (("coin", "c"), ("coin", "d"), ("set", 0, 2))),
                ("answer", ("+", "c", "d")))
        vault = Vault([(3, 0)], [("a", 1, rows)])
        self.assertEqual(outcomes(vault, (1,), ("a", 0)),
                         [((0, 0, 0), 0, (2,)), ((0, 0, 1), 1, (2,)), ((0, 1, 0), 1, (2,)), ((0, 1, 1), 2, (2,)),
                          ((1, 0), 0, (0,)), ((1, 1), 0, (1,))])
        self.assertEqual(outcomes(V, (2,), ("get", 0)), [((), 2, (2,))])
        four = Vault([(1, 0)], [("a", 1, (coin,) * 4)])
        self.assertEqual([way[0] for way in outcomes(four, (0,), ("a", 0))], list(itertools.product((0, 1), repeat=4)))

    def test_like_the_slow_ones(self):
        for seed in range(150):
            maker = Maker(seed)
            vault = maker.vault(True)
            for state in slow.states(vault)[:5]:
                for call in vault.calls():
                    self.assertEqual(outcomes(vault, state, call), slow.outcomes(vault, state, call))
                    falls = [maker.dice.randrange(2) for _ in range(4)]
                    told = slow.Slow(vault, state, call, falls)
                    self.assertEqual(steps(vault, state, call, falls), told.steps)
                    self.assertEqual(called(vault, state, call, falls[:told.used]), (told.answer, tuple(told.cells)))
                    if told.used:
                        with self.assertRaises(CoinsOut):
                            called(vault, state, call, falls[:told.used - 1])

    def test_errors(self):
        no_state = odd_but((0,)) + [(3,), (-1,), (True,)]
        no_call = odd_but(("put", 0)) + [
            ("put", True), ("put", 3), ("put", -1), ("get", 1), ("get", False), ("pu", 0), ("put", "0"), ["put", 0], ("put",)]
        no_coins = odd_but([], [0]) + [[2], [True], [False], [-1], (), (0,), [0] * 5, ["0"], [None]]
        for what in (called, steps):
            for value in no_state:
                with self.assertRaises(NoState):
                    what(V, value, None, None)
            for value in no_call:
                with self.assertRaises(NoCall):
                    what(V, (0,), value, None)
            for value in no_coins:
                with self.assertRaises(NoCoins):
                    what(V, (0,), ("put", 0), value)
                with self.assertRaises(NoCoins):
                    what(K, (0,), ("lay", 0), value)
        for value in no_state:
            with self.assertRaises(NoState):
                outcomes(V, value, None)
        for value in no_call:
            with self.assertRaises(NoCall):
                outcomes(V, (0,), value)


class Pasts(unittest.TestCase):

    def test_rows(self):
        row = [("put", 2), ("get", 0), ("put", 1), ("get", 0)]
        self.assertEqual(led(V, row), (1,))
        self.assertEqual(answered(V, row), [0, 2, 0, 1])
        self.assertEqual((led(V, []), answered(V, [])), ((0,), []))
        self.assertEqual(led(V, [("put", 1), ("put", 2)] * 200), (2,))
        self.assertEqual(share(W, [("put", 1), ("put", 0)]), {(0, 1): (1, 1)})
        self.assertEqual(share(K, []), {(0,): (1, 1)})

    def test_shares(self):
        self.assertEqual(share(K, [("lay", 0)]), {(1,): (1, 2), (2,): (1, 2)})
        self.assertEqual(share(K, [("lay", 0)] * 400), {(1,): (1, 2), (2,): (1, 2)})
        three = Vault([(4, 0)], [("a", 1, (("coin", "a"), ("if", "a", (("read", "b", 0), ("set", 0, ("+", "b", 1))), ())))])
        self.assertEqual(share(three, [("a", 0)] * 2), {(0,): (1, 4), (1,): (1, 2), (2,): (1, 4)})
        walk = share(three, [("a", 0)] * 400)
        self.assertEqual(sum(Fraction(*chance) for chance in walk.values()), 1)
        self.assertTrue(all(gcd(*chance) == 1 for chance in walk.values()))
        four = Vault([(9, 0)], [("a", 1, tuple(("coin", name) for name in "abcd") + (("set", 0, ("+", ("+", "a", "b"), ("+", "c", "d"))),))])
        self.assertEqual(share(four, [("a", 0)]), {(0,): (1, 16), (1,): (1, 4), (2,): (3, 8), (3,): (1, 4), (4,): (1, 16)})
        # How many coins fall hangs on the falls, and on the state.
        rows = (("set", 0, ("+", ("+", "a", "b"), ("+", "c", "d"))),)
        for name in "dcba":
            rows = (("coin", name), ("if", name, rows, (("set", 0, ("+", ("+", "a", "b"), "c")),)))
        long = Vault([(9, 0)], [("a", 1, rows)])
        self.assertEqual(share(long, [("a", 0)]), {(0,): (1, 2), (1,): (1, 4), (2,): (1, 8), (3,): (1, 16), (4,): (1, 16)})
        mixed = Vault([(6, 0)], [("a", 1, (("read", "a", 0), ("if", "a", (
            ("if", ("=", "a", 1), (("set", 0, 2),), (("coin", "b"), ("coin", "c"), ("set", 0, ("+", 3, ("+", "b", "c"))))),),
            (("coin", "b"), ("set", 0, ("+", "b", 1))))))])
        self.assertEqual(share(mixed, [("a", 0)] * 2), {(2,): (1, 2), (3,): (1, 8), (4,): (1, 4), (5,): (1, 8)})
        for seed in range(80):
            maker = Maker(seed)
            vault = maker.vault(True)
            row = [maker.dice.choice(vault.calls()) for _ in range(maker.dice.randrange(6))]
            self.assertEqual(share(vault, row), slow.told(slow.share(vault, row)))

    def test_coins_ahead_of_rows(self):
        for what in (led, answered):
            for value in ODD + [[("toss", 0)]]:
                with self.assertRaises(HasCoins):
                    what(LOOSE, value)

    def test_no_row(self):
        for what in (led, answered, share):
            for value in ODD + [(), (("put", 0),), "put", {("put", 0): 0}, ("put", 0)]:
                if not isinstance(value, list):
                    with self.assertRaises(NoRow) as caught:
                        what(V, value)
                    self.assertEqual(caught.exception.index, -1)
            for value in odd_but(("put", 0)) + [("get", False), ("get", 1), ("put", 3), ["put", 0], ("toss", 0)]:
                for ahead in (0, 3):
                    with self.assertRaises(NoRow) as caught:
                        what(V, [("get", 0)] * ahead + [value, ("put", 0), value])
                    self.assertEqual(caught.exception.index, ahead)
        with self.assertRaises(NoRow):
            share(UNSURE, [("flip", 0), ("flip", 1)])


if __name__ == "__main__":
    unittest.main()
