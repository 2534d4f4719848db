"""[31]: two hands on the same cells."""

import unittest

from pastless.errors import Busy, HasCoins, NoCall, NoHand, NotBusy
from pastless.hands import Hands
from pastless.runs import called, steps
from pastless.vaults import Vault
from odd import odd_but
from slow import K, LOOSE, UNSURE, V, W, Maker
from slow_hands import I, SWAP, Tale, made_weaving, racy_vault

INC = ("inc", 0)
# Deeds without a step: the first one answers at once, the others after some rows that are no steps.
CALM = Vault([(3, 0)], [("none", 1, ()), ("say", 9, (("keep", "a", "x"), ("answer", "a"))),
                        ("loop", 9, (("times", "x", (("keep", "b", ("+", "b", 1)),)), ("answer", ("*", "b", 2)))),
                        ("may", 2, (("if", "x", (("set", 0, 2),), ()), ("answer", 7)))])
# Whatever it answers was in its own registers.
MINE = Vault([(9, 0)], [("run", 9, (("keep", "a", "x"), ("read", "b", 0), ("keep", "c", ("+", "c", 1)), ("set", 0, ("+", "b", 1)),
                                    ("swap", "d", 0, ("+", "b", 1), 8), ("answer", ("+", ("*", "a", 1), ("*", "d", 5)))))])


def picture(hands):
    return (hands.state(), hands.busy(0), hands.busy(1), hands.weaving(), hands.told())


class Both(unittest.TestCase):

    def test_the_beginning(self):
        self.assertEqual(picture(Hands(W)), ((0, 0), None, None, [], []))
        self.assertEqual(Hands(LATE).state(), (4, 2))

    def test_one_hand(self):
        hands = Hands(I)
        self.assertIs(hands.call(0, INC), None)
        self.assertEqual(picture(hands), ((0,), INC, None, [("call", 0, INC)], [("called", 0, INC)]))
        self.assertIs(hands.step(0), None)
        self.assertEqual(picture(hands), ((0,), INC, None, [("call", 0, INC), ("step", 0)], [("called", 0, INC)]))
        self.assertEqual(hands.step(0), 0)
        self.assertEqual(picture(hands), ((1,), None, None, [("call", 0, INC), ("step", 0), ("step", 0)],
                                          [("called", 0, INC), ("answered", 0, 0)]))

    def test_both_hands(self):
        """Both read 0, then both set 1 and answer 0."""
        hands = Hands(I)
        told = [hands.call(0, INC), hands.step(0), hands.call(1, INC), hands.step(1), hands.step(0), hands.step(1)]
        self.assertEqual(told, [None, None, None, None, 0, 0])
        self.assertEqual(hands.state(), (1,))
        self.assertEqual(hands.weaving(), [("call", 0, INC), ("step", 0), ("call", 1, INC), ("step", 1), ("step", 0), ("step", 1)])
        self.assertEqual(hands.told(), [("called", 0, INC), ("called", 1, INC), ("answered", 0, 0), ("answered", 1, 0)])

    def test_a_swap_between(self):
        """The swap of the one sees what the other did between its read and its swap, and it reads again."""
        hands = Hands(SWAP)
        told = [hands.call(0, INC), hands.step(0), hands.call(1, INC), hands.step(1), hands.step(1), hands.step(0), hands.step(0), hands.step(0)]
        self.assertEqual(told, [None, None, None, None, 0, None, None, 1])
        self.assertEqual(hands.state(), (2,))
        self.assertEqual(hands.told(), [("called", 0, INC), ("called", 1, INC), ("answered", 1, 0), ("answered", 0, 1)])

    def test_registers_of_their_own(self):
        hands = Hands(MINE)
        for hand in (0, 1):
            hands.call(hand, ("run", 3 + hand))
        self.assertEqual([hands.step(hand) for hand in (0, 1, 0, 1)], [None] * 4)
        # Both read 0 and set 1. The first swap finds it, the second one finds 8.
        self.assertEqual(hands.step(1), 9)
        self.assertEqual(hands.state(), (8,))
        self.assertEqual(hands.step(0), 3)
        # The next call begins with registers of 0.
        hands = Hands(Vault([(9, 0)], [("see", 1, (("answer", ("+", "a", ("+", "b", ("+", "c", "d")))),)),
                                       ("fill", 1, (("keep", "a", 1), ("keep", "b", 1), ("keep", "c", 1), ("read", "d", 0), ("answer", 9)))]))
        self.assertIs(hands.call(0, ("fill", 0)), None)
        self.assertEqual((hands.step(0), hands.call(0, ("see", 0)), hands.call(1, ("see", 0))), (9, 0, 0))

    def test_without_a_step(self):
        hands = Hands(CALM)
        self.assertEqual(hands.call(0, ("none", 0)), 0)
        self.assertEqual(hands.call(1, ("say", 7)), 7)
        self.assertEqual(hands.call(0, ("loop", 8)), 6)
        self.assertEqual(hands.call(0, ("may", 0)), 7)
        self.assertEqual(hands.busy(0), None)
        self.assertIs(hands.call(0, ("may", 1)), None)
        self.assertEqual(hands.call(1, ("may", 0)), 7)
        self.assertEqual(hands.busy(0), ("may", 1))
        self.assertEqual(hands.step(0), 7)
        self.assertEqual(hands.state(), (2,))
        self.assertEqual(hands.told()[:4], [("called", 0, ("none", 0)), ("answered", 0, 0), ("called", 1, ("say", 7)), ("answered", 1, 7)])
        self.assertEqual(hands.weaving()[-3:], [("call", 0, ("may", 1)), ("call", 1, ("may", 0)), ("step", 0)])

    def test_a_call_alone_is_as_it_is_run(self):
        for seed in range(80):
            vault = Maker(seed).vault()
            for call in vault.calls():
                hands = Hands(vault)
                answer, many = hands.call(1, call), 0
                while answer is None:
                    self.assertEqual(hands.state(), ([(0, 0, 0, vault.first())] + steps(vault, vault.first(), call, []))[many][3])
                    answer, many = hands.step(1), many + 1
                self.assertEqual((answer, hands.state()), called(vault, vault.first(), call, []))
                self.assertEqual(many, len(steps(vault, vault.first(), call, [])))

    def test_like_the_slow_one(self):
        for seed in range(200):
            maker = Maker(seed)
            vault = maker.vault() if seed % 2 else racy_vault(maker.dice)
            weaving = made_weaving(maker.dice, vault, 14)
            hands = Hands(vault)
            for item in weaving:
                (hands.call if item[0] == "call" else hands.step)(*item[1:])
            tale = Tale(vault, weaving)
            busy = [one and one[1].call for one in tale.amid]
            self.assertEqual(picture(hands), (tuple(tale.cells), busy[0], busy[1], weaving, tale.told))


LATE = Vault([(5, 4), (3, 2)], [("none", 1, ())])


class Errors(unittest.TestCase):

    def test_coins(self):
        for vault in (K, LOOSE, UNSURE):
            with self.assertRaises(HasCoins):
                Hands(vault)

    def test_hands(self):
        hands = Hands(I)
        hands.call(0, INC)
        kept = picture(hands)
        for value in odd_but(0, 1) + [2, -1, 10 ** 30, "0", 1.0]:
            for what in (hands.busy, hands.step, lambda hand: hands.call(hand, INC), lambda hand: hands.call(hand, "none")):
                with self.assertRaises(NoHand):
                    what(value)
        self.assertEqual(picture(hands), kept)

    def test_calls(self):
        hands = Hands(W)
        hands.call(0, ("put", 1))
        hands.call(1, ("put", 0))
        kept = picture(hands)
        for hand in (0, 1):
            for value in odd_but(("put", 0)) + [("put", 2), ("get", 1), ("put", True), ("get", False), ["put", 1], ("none", 0), ("put", 0, 0)]:
                with self.assertRaises(NoCall):
                    hands.call(hand, value)
            for call in W.calls():
                with self.assertRaises(Busy):
                    hands.call(hand, call)
        self.assertEqual(picture(hands), kept)
        self.assertIs(hands.step(1), None)

    def test_not_busy(self):
        hands = Hands(V)
        for hand in (0, 1, 0):
            with self.assertRaises(NotBusy):
                hands.step(hand)
        hands.call(1, ("put", 2))
        kept = picture(hands)
        with self.assertRaises(NotBusy):
            hands.step(0)
        self.assertEqual(picture(hands), kept)
        hands.step(1)
        with self.assertRaises(NotBusy):
            hands.step(1)
        self.assertEqual(hands.state(), (2,))


class Values(unittest.TestCase):

    def test_lists_may_be_changed(self):
        hands = Hands(I)
        hands.call(0, INC)
        for what in (hands.weaving, hands.told):
            first, second = what(), what()
            self.assertIsNot(first, second)
            first.clear()
            second.append(None)
            self.assertEqual(len(what()), 1)
        hands.step(0)
        self.assertEqual(hands.step(0), 0)

    def test_hands_keep_apart(self):
        one, other = Hands(I), Hands(I)
        one.call(0, INC)
        one.step(0)
        other.call(0, INC)
        self.assertEqual(other.weaving(), [("call", 0, INC)])
        one.step(0)
        self.assertEqual((one.state(), other.state()), ((1,), (0,)))
        self.assertEqual(other.busy(0), INC)


if __name__ == "__main__":
    unittest.main()
