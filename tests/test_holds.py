"""[11], [12], [13] and [36]: what a vault holds."""

import itertools
import unittest

from pastless.errors import NoState, NotComing, NotSure, TooMany
from pastless.holds import content, contents, most_layouts, parted, states, unsure, unsure_fault
from pastless.vaults import Vault, begun
import slow
from odd import ODD, odd_but
from slow import K, LOOSE, UNSURE, V, W, Maker, counter

# What the coin laid down is told three calls later only.
LATE = Vault([(2, 0), (4, 0)], [("flip", 1, (("coin", "a"), ("set", 0, "a"), ("set", 1, 0))),
                                ("wait", 1, (("read", "a", 1), ("set", 1, ("+", "a", 1)), ("read", "b", 0),
                                             ("if", ("=", "a", 2), (("answer", "b"),), ())))])
# Its first state cannot be come back to.
GONE = Vault([(3, 2)], [("go", 1, (("set", 0, 0),)), ("get", 1, (("read", "a", 0), ("answer", ("=", "a", 2))))])


def staged(last, toss):
    """A vault whose deed "end" tells a coin at one stage only; "go" leads to the next one, or throws a coin for that."""
    rows = (("coin", "b"),) if toss else (("keep", "b", 1),)
    return Vault([(7, 0)], [("go", 1, rows + (("read", "a", 0), ("set", 0, ("+", "a", "b")))),
                            ("end", 1, (("read", "a", 0), ("if", ("=", "a", last), (("coin", "b"), ("answer", "b")), ())))])


HALF = begun(Vault([(3, 0), (2, 0)], [("put", 2, (("set", 0, "x"),))]), (1, 1))


class States(unittest.TestCase):

    def test_order(self):
        self.assertEqual(states(W), [(0, 0), (1, 0), (0, 1), (1, 1)])
        self.assertEqual(states(begun(W, (1, 1))), [(1, 1), (0, 1), (0, 0), (1, 0)])
        self.assertEqual(states(K), [(0,), (1,), (2,)])
        self.assertEqual(states(GONE), [(2,), (0,)])
        self.assertEqual(states(HALF), [(1, 1), (0, 1)])
        down = Vault([(3, 0)], [("lay", 1, (("coin", "b"), ("set", 0, ("-", 2, "b"))))])
        self.assertEqual(states(down), [(0,), (2,), (1,)])
        wide = Vault([(9, 4)], [("to", 9, (("set", 0, ("-", 8, "x")),)), ("back", 1, (("set", 0, 4),))])
        self.assertEqual(states(wide), [(4,), (8,), (7,), (6,), (5,), (3,), (2,), (1,), (0,)])
        for seed in range(150):
            vault = Maker(seed).vault(seed % 2 == 1)
            self.assertEqual(states(vault), slow.states(vault))

    def test_most(self):
        for vault in (W, K, UNSURE, LOOSE, GONE, counter(3, 3)):
            many = len(states(vault))
            self.assertEqual(len(states(vault, most=many)), many)
            for most in (1, many - 1):
                with self.assertRaises(TooMany) as caught:
                    states(vault, most=most)
                self.assertEqual(caught.exception.most, most)
        self.assertEqual(states(begun(Vault([(2, 0)], [("a", 1, ())]), (1,)), most=1), [(1,)])

    def test_many(self):
        cells = [(5, 0), (5, 0), (5, 0), (8, 0), (2, 0)]
        body = (("answer", 0),)
        for cell, (size, _) in enumerate(cells):
            body = (("read", "a", cell), ("set", cell, ("+", "a", 1)), ("if", ("=", "a", size - 1), body, ()))
        self.assertEqual(len(states(Vault(cells, [("inc", 1, body)]))), 2000)
        with self.assertRaises(TooMany) as caught:
            states(counter(4, 7))
        self.assertEqual(caught.exception.most, 2000)
        self.assertEqual(len(states(counter(4, 7), most=2401)), 2401)
        self.assertEqual(len(states(counter(5, 9), most=59049)), 59049)
        with self.assertRaises(TooMany) as caught:
            states(counter(6, 9), most=100000)
        self.assertEqual(caught.exception.most, 100000)


class Unsure(unittest.TestCase):

    def test_sure(self):
        for vault in (V, W, K, LOOSE, counter(2, 3)):
            self.assertIs(unsure(vault), None)

    def test_not_sure(self):
        once = Vault([(1, 0)], [("flip", 1, (("coin", "a"), ("answer", "a")))])
        second = Vault([(2, 0)], [("a", 1, (("coin", "a"), ("if", "a", (("coin", "b"), ("answer", "b")), ())))])
        for vault in (UNSURE, LATE, once, second):
            row, one, other = unsure(vault)
            self.assertIs(unsure_fault(vault, (row, one, other)), None)
            self.assertIs(slow.unsure_fault(vault, (row, one, other)), None)
            for what in (contents, most_layouts):
                with self.assertRaises(NotSure):
                    what(vault)
        self.assertEqual([call[0] for call in unsure(LATE)[0]], ["flip", "wait", "wait", "wait"])

    def test_stages(self):
        for last in range(7):
            for toss in (False, True):
                vault = staged(last, toss)
                row, one, other = unsure(vault)
                self.assertIs(unsure_fault(vault, (row, one, other)), None)
                self.assertEqual((row[-1], len(row) > last), (("end", 0), True))

    def test_like_the_slow_ones(self):
        seen = set()
        for seed in range(200):
            vault = Maker(seed).vault(True, sizes=4)
            thing = unsure(vault)
            self.assertEqual(thing is None, slow.is_sure(vault))
            seen.add(thing is None)
            if thing is not None:
                self.assertIs(unsure_fault(vault, thing), None)
                self.assertIs(slow.unsure_fault(vault, thing), None)
        self.assertEqual(seen, {True, False})

    def test_form(self):
        row, one, other = [("flip", 0), ("get", 0)], [(0,), ()], [(1,), ()]
        self.assertIs(unsure_fault(UNSURE, (row, one, other)), None)
        wrong = ODD + [[row, one, other], (row, one), (row, one, other, []), ([], [], []), (tuple(row), one, other),
                       (row, tuple(one), other), (row, one, tuple(other)), (row, one[:1], other), (row, one, other + [()]),
                       ([("flip", 0), ("get", 1)], one, other), ([("flip", False), ("get", 0)], one, other),
                       (row, None, other), (row, one, None), (row, [[0], ()], other), (row, one, [(1,), []]), (row, [(True,), ()], other), (row, one, [(2,), ()]),
                       (row, one, [(-1,), ()]), (row, one, [("1",), ()]), (row, one, [None, ()]), (None, one, other)]
        for thing in wrong:
            self.assertEqual(unsure_fault(UNSURE, thing), ("form",))

    def test_falls(self):
        row = [("get", 0), ("flip", 0), ("get", 0)]
        good, other = [(), (0,), ()], [(), (1,), ()]
        for which in (0, 1):
            for index, falls in [(0, (0,)), (1, ()), (1, (0, 1)), (1, (0,) * 9), (2, (1, 1))]:
                bad = [falls if at == index else one for at, one in enumerate(good)]
                things = (row, bad, other) if which == 0 else (row, other, bad)
                self.assertEqual(unsure_fault(UNSURE, things), ("falls", which, index))
        self.assertEqual(unsure_fault(UNSURE, (row, [(), (), (0,)], [(1,), (), ()])), ("falls", 0, 1))
        self.assertEqual(unsure_fault(V, ([("get", 0)], [()], [(0,)])), ("falls", 1, 0))
        # How many falls are needed hangs on those ahead.
        vault = Vault([(2, 0)], [("a", 1, (("coin", "a"), ("if", "a", (("coin", "b"), ("answer", "b")), ()), ("set", 0, 1)))])
        self.assertIs(unsure_fault(vault, ([("a", 0)], [(0,)], [(1, 1)])), None)
        self.assertEqual(unsure_fault(vault, ([("a", 0)], [(0, 0)], [(1,)])), ("falls", 0, 0))
        self.assertEqual(unsure_fault(vault, ([("a", 0)], [(1, 1)], [(1,)])), ("falls", 1, 0))

    def test_same(self):
        row = [("flip", 0), ("get", 0)]
        self.assertEqual(unsure_fault(UNSURE, (row, [(1,), ()], [(1,), ()])), ("same",))
        # Only the last answers count.
        self.assertEqual(unsure_fault(UNSURE, (row + [("flip", 0)], [(0,), (), (0,)], [(1,), (), (1,)])), ("same",))
        self.assertEqual(unsure_fault(V, ([("get", 0)], [()], [()])), ("same",))


class Contents(unittest.TestCase):

    def test_contents(self):
        self.assertEqual(contents(W), [[(0, 0), (0, 1)], [(1, 0), (1, 1)]])
        self.assertEqual(contents(V), [[(0,)], [(1,)], [(2,)]])
        self.assertEqual(contents(K), [[(0,)], [(1,), (2,)]])
        self.assertEqual(contents(begun(W, (1, 1))), [[(1, 1), (1, 0)], [(0, 1), (0, 0)]])
        self.assertEqual(contents(LOOSE), [[(0, 0), (0, 1)], [(1, 0), (1, 1)]])
        self.assertEqual(contents(HALF), [[(1, 1), (0, 1)]])
        self.assertEqual(len(contents(counter(4, 6))), 1296)
        silent = Vault([(9, 0)] * 3, [(name, 9, (("set", at, "x"),)) for at, name in enumerate("abc")])
        self.assertEqual(contents(silent), [states(silent)])

    def test_content(self):
        for vault in (V, W, K, LOOSE, GONE, HALF):
            for index, held in enumerate(contents(vault)):
                for state in held:
                    self.assertEqual(content(vault, state), index)

    def test_most_layouts(self):
        self.assertEqual([most_layouts(vault) for vault in (V, W, K, LOOSE, HALF)], [1, 2, 2, 2, 2])

    def test_parted(self):
        self.assertEqual(parted(W, (0, 1), (1, 1)), [("get", 0)])
        self.assertIs(parted(W, (0, 1), (0, 0)), None)
        self.assertIs(parted(W, (1, 1), (1, 1)), None)
        self.assertIs(parted(K, (1,), (2,)), None)
        self.assertEqual(parted(K, (2,), (0,)), [("lay", 0)])
        many = counter(3, 5)
        self.assertEqual(len(parted(many, (0, 0, 0), (0, 0, 1))), 124)
        self.assertEqual(len(parted(many, (4, 4, 4), (1, 0, 0))), 1)

    def test_like_the_slow_ones(self):
        for seed in range(200):
            maker = Maker(seed)
            vault = maker.vault(seed % 2 == 1)
            if not slow.is_sure(vault):
                continue
            self.assertEqual(contents(vault), slow.contents(vault))
            self.assertEqual(most_layouts(vault), max(map(len, contents(vault))))
            found = states(vault)
            for _ in range(4):
                one, other = maker.dice.choice(found), maker.dice.choice(found)
                row = parted(vault, one, other)
                self.assertEqual(row and len(row), slow.parting_length(vault, one, other))
                if row is not None:
                    self.assertNotEqual(slow.last_answer(vault, {one: 1}, row), slow.last_answer(vault, {other: 1}, row))

    def test_no_state(self):
        for value in odd_but((0, 0)) + [(2, 0), (0, 2), (0, True), [0, 0]]:
            with self.assertRaises(NoState):
                content(W, value)
            with self.assertRaises(NoState):
                parted(W, value, (0, 0))
            with self.assertRaises(NoState):
                parted(W, (0, 0), value)

    def test_not_coming(self):
        for one, other in itertools.product([(1, 1), (0, 1), (2, 0), (2, 1)], repeat=2):
            if 2 in one + other:
                with self.assertRaises(NotComing):
                    parted(HALF, one, other)
        for state in [(2, 1), (1, 0)]:
            with self.assertRaises(NotComing):
                content(HALF, state)


if __name__ == "__main__":
    unittest.main()
