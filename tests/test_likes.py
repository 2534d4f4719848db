"""[14]: likenesses."""

import unittest

from pastless.errors import NoState, NotComing, NotSure
from pastless.holds import contents, parted, states
from pastless.likes import likeness, likeness_fault
from pastless.vaults import Vault
import slow
from odd import ODD, odd_but
from slow import K, LOOSE, UNSURE, W, Maker, damaged

# Three states that show nothing, and a fourth one that does.
RING = Vault([(4, 0)], [("go", 1, (("read", "a", 0), ("if", ("<", "a", 2), (("set", 0, ("+", "a", 1)),), (("set", 0, 0),)))),
                        ("jump", 1, (("set", 0, 3),)),
                        ("get", 1, (("read", "a", 0), ("answer", ("=", "a", 3))))])
# None of its states can come but the first one.
STILL = Vault([(4, 0)], [("see", 1, (("read", "a", 0), ("answer", ("<", "a", 2)))), ("stay", 1, ())])
# Two coins fall into states that are all silent, none of them the same.
FAN = Vault([(9, 0)], [("move", 1, (("read", "a", 0), ("if", "a", (), (("set", 0, 1),)))),
                       ("toss", 1, (("read", "a", 0), ("if", ("<", "a", 2), (
                           ("coin", "b"), ("set", 0, ("+", 2, ("+", "b", ("*", 2, "a"))))), ())))])


class Likeness(unittest.TestCase):

    def test_like(self):
        for vault in (W, K, LOOSE, RING, FAN):
            for held in contents(vault):
                for one in held:
                    for other in held:
                        pairs = likeness(vault, one, other)
                        self.assertIs(likeness_fault(vault, one, other, pairs), None)
                        self.assertIs(slow.likeness_fault(vault, one, other, pairs), None)
                        self.assertLess(len(pairs), len(states(vault)))

    def test_all_falls_are_joined(self):
        pairs = likeness(FAN, (0,), (1,))
        self.assertEqual(len(pairs), 4)
        for one in range(2, 6):
            for other in range(2, 6):
                self.assertIs(likeness_fault(FAN, (one,), (other,), pairs), None)

    def test_not_like(self):
        self.assertIs(likeness(W, (0, 0), (1, 0)), None)
        self.assertIs(likeness(K, (0,), (1,)), None)
        self.assertIs(likeness(RING, (3,), (1,)), None)

    def test_like_the_slow_ones(self):
        faults = set()
        for seed in range(250):
            maker = Maker(seed)
            vault = maker.vault(seed % 2 == 1)
            if not slow.is_sure(vault):
                continue
            found = states(vault)
            for _ in range(4):
                one, other = maker.dice.choice(found), maker.dice.choice(found)
                pairs = likeness(vault, one, other)
                self.assertEqual(pairs is None, parted(vault, one, other) is not None)
                if pairs is not None:
                    self.assertIs(slow.likeness_fault(vault, one, other, pairs), None)
                thing = (pairs or []) + [(maker.dice.choice(found), maker.dice.choice(found)) for _ in range(2)]
                thing = damaged(maker.dice, thing)
                fault = likeness_fault(vault, one, other, thing)
                self.assertEqual(fault, slow.likeness_fault(vault, one, other, thing))
                faults.add(fault and fault[0])
        self.assertEqual(faults, {None, "first", "answer", "pair"})

    def test_errors(self):
        for value in odd_but((0, 0)) + [(2, 0), (0, 2), (0, True), [0, 0]]:
            with self.assertRaises(NoState):
                likeness(W, value, (0, 0))
            with self.assertRaises(NoState):
                likeness(W, (0, 0), value)
            with self.assertRaises(NoState):
                likeness_fault(W, value, (0, 0), [])
            with self.assertRaises(NoState):
                likeness_fault(W, (0, 0), value, None)
        with self.assertRaises(NotSure):
            likeness(UNSURE, (0,), (1,))
        for one, other in [((0,), (3,)), ((3,), (0,)), ((3,), (3,))]:
            with self.assertRaises(NotComing):
                likeness(STILL, one, other)


class Fault(unittest.TestCase):

    def test_form(self):
        pair = ((0,), (1,))
        self.assertIs(likeness_fault(STILL, (0,), (1,), [pair]), None)
        for thing in odd_but([]) + [(pair,), [list(pair)], [((0,),)], [pair + ((0,),)], [((0,), (4,))], [((0,), [1])], [((0,), (True,))],
                                    [pair, None], [((0, 0), (1,))], [((-1,), (0,))], {pair: 0}, pair]:
            self.assertEqual(likeness_fault(STILL, (0,), (0,), thing), ("form",))

    def test_first(self):
        self.assertIs(likeness_fault(STILL, (2,), (2,), []), None)
        self.assertEqual(likeness_fault(STILL, (2,), (3,), []), ("first",))
        self.assertEqual(likeness_fault(STILL, (2,), (3,), [((0,), (1,))]), ("first",))
        # It comes ahead of what is wrong with the pairs.
        self.assertEqual(likeness_fault(STILL, (2,), (3,), [((0,), (2,))]), ("first",))

    def test_chains(self):
        for pairs in [[((0,), (1,)), ((1,), (2,))], [((1,), (0,)), ((1,), (2,))], [((0,), (1,)), ((2,), (1,))],
                      [((2,), (1,)), ((1,), (0,))], [((2,), (0,)), ((0,), (1,)), ((0,), (0,))]]:
            self.assertIs(likeness_fault(RING, (0,), (2,), pairs), None)
            self.assertIs(likeness_fault(RING, (2,), (0,), pairs), None)
        # States that cannot come are judged, too.
        self.assertIs(likeness_fault(STILL, (3,), (2,), [((2,), (3,))]), None)

    def test_answer(self):
        self.assertEqual(likeness_fault(RING, (0,), (0,), [((2,), (3,))]), ("answer", 0, ("get", 0)))
        self.assertEqual(likeness_fault(STILL, (0,), (1,), [((0,), (1,)), ((1,), (2,))]), ("answer", 1, ("see", 0)))
        self.assertEqual(likeness_fault(STILL, (0,), (0,), [((1,), (2,)), ((1,), (3,))]), ("answer", 0, ("see", 0)))
        # The same state twice; its own outcomes answer otherwise.
        once = Vault([(1, 0)], [("none", 1, ()), ("flip", 1, (("coin", "a"), ("answer", "a")))])
        self.assertEqual(likeness_fault(once, (0,), (0,), [((0,), (0,))]), ("answer", 0, ("flip", 0)))
        self.assertIs(likeness_fault(once, (0,), (0,), []), None)

    def test_pair(self):
        self.assertEqual(likeness_fault(RING, (0,), (1,), [((0,), (1,))]), ("pair", 0, ("go", 0)))
        self.assertEqual(likeness_fault(RING, (0,), (1,), [((3,), (3,)), ((0,), (1,))]), ("pair", 1, ("go", 0)))
        # The first pair counts, and for it the first call, whatever applies to it.
        self.assertEqual(likeness_fault(RING, (0,), (0,), [((0,), (3,))]), ("pair", 0, ("go", 0)))
        self.assertEqual(likeness_fault(RING, (0,), (0,), [((2,), (3,)), ((0,), (1,))]), ("answer", 0, ("get", 0)))
        # Each state behind the one is to be joined with each behind the other.
        toss = Vault([(3, 0)], [("toss", 1, (("coin", "a"), ("set", 0, ("+", "a", 1))))])
        self.assertEqual(likeness_fault(toss, (0,), (0,), [((0,), (0,))]), ("pair", 0, ("toss", 0)))
        self.assertIs(likeness_fault(toss, (0,), (0,), [((0,), (0,)), ((1,), (2,))]), None)
        self.assertEqual(likeness_fault(toss, (0,), (1,), [((0,), (1,))]), ("pair", 0, ("toss", 0)))
        self.assertIs(likeness_fault(toss, (0,), (2,), [((0,), (1,)), ((1,), (2,))]), None)

    def test_any_thing(self):
        for vault in (W, K, UNSURE):
            first = vault.first()
            for thing in ODD:
                self.assertIn(likeness_fault(vault, first, first, thing), [("form",), None])


if __name__ == "__main__":
    unittest.main()
