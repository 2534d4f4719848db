"""[25]: wishes."""

import unittest

import slow_wishes
from pastless.errors import HasCoins, NoCall, NoContent, NoMost, NotSure, NoWish, OtherCalls, TooMany, TooWide
from pastless.holds import contents, states
from pastless.runs import answered
from pastless.vaults import Vault
from pastless.wishes import Wish, unkept, wish_of
from odd import ODD, odd_but
from slow import K, LOOSE, UNSURE, V, W, Maker, counter, outcomes
from slow_wishes import made_wish, ring_wish

A, B = ("a", 0), ("b", 0)
DEEDS = [("a", 1), ("b", 1)]


def table():
    """Three contents in a ring; "b" tells whether it is the first one."""
    return [{A: (0, 1), B: (1, 0)}, {A: (0, 2), B: (0, 1)}, {A: (5, 0), B: (0, 2)}]


def line(many, last=0):
    """A table of one call that goes on to the last content, which answers otherwise and goes back to some content."""
    return [{A: (0, at + 1)} for at in range(many - 1)] + [{A: (1, last)}]


class Parts(unittest.TestCase):

    def wrong(self, part, deeds, told):
        with self.assertRaises(NoWish) as caught:
            Wish(deeds, told)
        self.assertEqual(caught.exception.part, part)

    def test_deeds(self):
        for value in ODD + [[], tuple(DEEDS), {"a": 1}, [["a", 1]], ["a", 1], [("a", 1), ("a", 1)], [("a", 1), ("b", 1), ("a", 2)], [("", 1)],
                            [("A", 1)], [("abcdefghi", 1)], [("a b", 1)], [("a", 0)], [("a", 10)], [("a", True)], [("a", "1")], [("a",)],
                            [("a", 1, ())], [(1, "a")], [("a", -1)], [(None, 1)], [(name, 1) for name in "abcdefghi"], DEEDS + [None], [("1", 1)]]:
            self.wrong("deeds", value, None)
        for deeds in ([("abcdefgh", 9)], [(name, 1) for name in "abcdefgh"]):
            calls = [(name, argument) for name, choices in deeds for argument in range(choices)]
            self.assertEqual(Wish(deeds, [{call: (0, 0) for call in calls}]).calls(), calls)

    def test_table(self):
        for value in ODD + [tuple(table()), {0: table()[0]}, table()[0], [], table() + [None], table() + [[]], [list(table()[0].items())],
                            [None] + table()]:
            self.wrong("table", DEEDS, value)
        for at in range(3):
            for key in (A, B):
                less = table()
                del less[at][key]
                self.wrong("table", DEEDS, less)
            for key in [("c", 0), ("a", 1), ("a", -1), ("a",), "a", 0, None, True, ("a", 0, 0), ("a", None), (0, "a"), (("a", 0), 0), ()]:
                more = table()
                more[at][key] = (0, 0)
                self.wrong("table", DEEDS, more)
                del more[at][A]
                self.wrong("table", DEEDS, more)
            for value in ODD + [(10, 0), (-1, 0), (0, 3), (0, -1), (True, 0), (0, True), (False, False), [0, 0], (0,), (0, 0, 0), ("0", 0), None, 0]:
                if value != (0, 0) or value[0] is False:
                    wrong = table()
                    wrong[at][B] = value
                    self.wrong("table", DEEDS, wrong)
        # A flag in a key, where an integer was.
        for name in ("a", "b"):
            flag = table()
            told = flag[1].pop((name, 0))
            flag[1][(name, False)] = told
            self.wrong("table", DEEDS, flag)
        one = table()
        one[0][A], one[2][B] = (9, 1), (9, 2)
        self.assertEqual(Wish(DEEDS, one).answer(0, A), 9)

    def test_many_contents(self):
        self.assertEqual(Wish([("a", 1)], line(1)).many(), 1)
        self.assertEqual(Wish([("a", 1)], line(40)).many(), 40)
        self.assertEqual(Wish([("a", 1)], line(40, 39)).many(), 40)
        self.wrong("table", [("a", 1)], line(41))

    def test_far(self):
        far = table()
        far[1][A] = (0, 0)
        self.wrong("far", DEEDS, far)
        self.wrong("far", [("a", 1)], line(7)[1:] + [{A: (0, 0)}])
        self.wrong("far", [("a", 1)], [{A: (0, 0)}, {A: (0, 0)}])
        # All can come from the second one, but not from the first one.
        self.wrong("far", [("a", 1)], [{A: (0, 0)}, {A: (1, 0)}])

    def test_like(self):
        self.wrong("like", [("a", 1)], [{A: (3, 1)}, {A: (3, 0)}])
        same = table()
        same[2][A] = (0, 0)
        Wish(DEEDS, same)
        same[0][B] = (0, 0)
        self.wrong("like", DEEDS, same)
        # Of 40 contents, only rows of 38 calls and more tell the first two from one another; or none do.
        Wish([("a", 1)], line(40))
        self.wrong("like", [("a", 1)], [{A: (0, at + 1)} for at in range(39)] + [{A: (0, 39)}])
        self.wrong("like", [("a", 1)], [{A: (at % 2, (at + 1) % 40)} for at in range(40)])
        Wish([("a", 1)], [{A: (at % 2, (at + 1) % 39)} for at in range(39)])
        for seed in range(300):
            dice = Maker(seed).dice
            many, spread = dice.randrange(2, 7), dice.randrange(1, 4)
            calls = [("a", at) for at in range(dice.randrange(1, 4))]
            leads = [[dice.randrange(many) for _ in calls] for _ in range(many)]
            replies = [[int(dice.random() * spread) for _ in calls] for _ in range(many)]
            told = [{call: (replies[at][number], leads[at][number]) for number, call in enumerate(calls)} for at in range(many)]
            if slow_wishes.is_wish(replies, leads):
                self.assertEqual(Wish([("a", len(calls))], told).many(), many)
            else:
                with self.assertRaises(NoWish) as caught:
                    Wish([("a", len(calls))], told)
                self.assertIn(caught.exception.part, ("far", "like"))

    def test_order(self):
        self.wrong("deeds", [], [])
        self.wrong("table", [("a", 1)], [{A: (0, 0)}, {A: (0, 1)}, {A: (0, 3)}])
        self.wrong("far", [("a", 1)], [{A: (0, 0)}, {A: (0, 1)}])
        self.wrong("like", [("a", 1)], [{A: (0, 1)}, {A: (0, 1)}])


class Methods(unittest.TestCase):

    def setUp(self):
        self.wish = Wish(DEEDS, table())

    def test_parts(self):
        self.assertEqual(self.wish.many(), 3)
        self.assertEqual(self.wish.deeds(), DEEDS)
        self.assertEqual(self.wish.calls(), [A, B])
        for content, row in enumerate(table()):
            for call, told in row.items():
                self.assertEqual((self.wish.answer(content, call), self.wish.after(content, call)), told)
        self.assertEqual(self.wish.shape(), ((("a", 1), ("b", 1)), (((0, 1), (1, 0)), ((0, 2), (0, 1)), ((5, 0), (0, 2)))))
        two = Wish([("b", 2), ("a", 1)], [{A: (7, 0), ("b", 1): (8, 0), B: (9, 0)}])
        self.assertEqual(two.calls(), [B, ("b", 1), A])
        self.assertEqual(two.shape(), ((("b", 2), ("a", 1)), (((9, 0), (8, 0), (7, 0)),)))

    def test_ties(self):
        self.assertEqual(self.wish.ties(), [(0, 1), (0, 2), (1, 2)])
        self.assertEqual(Wish([("a", 1)], line(4, 3)).ties(), [(0, 1), (1, 2), (2, 3)])
        self.assertEqual(Wish([("a", 1)], line(4, 1)).ties(), [(0, 1), (1, 2), (1, 3), (2, 3)])
        self.assertEqual(Wish([("a", 1)], line(1)).ties(), [])
        self.assertEqual(ring_wish(6).ties(), [(0, 1), (0, 5), (1, 2), (2, 3), (3, 4), (4, 5)])
        for seed in range(60):
            wish = made_wish(Maker(seed).dice)
            ties = {(min(pair), max(pair)) for content in range(wish.many()) for call in wish.calls()
                    for pair in [(content, wish.after(content, call))] if pair[0] != pair[1]}
            self.assertEqual(wish.ties(), sorted(ties))

    def test_errors(self):
        for what in (self.wish.answer, self.wish.after):
            for value in odd_but(0, 1) + [3, -1, "0", None, True]:
                with self.assertRaises(NoContent):
                    what(value, None)
            for value in ODD + [("a", 1), ("a", False), ["a", 0], "a", ("c", 0)]:
                with self.assertRaises(NoCall):
                    what(2, value)

    def test_it_copies(self):
        deeds, told = list(DEEDS), table()
        wish = Wish(deeds, told)
        deeds.clear()
        told[0][A] = (9, 9)
        told[1].clear()
        told.clear()
        self.assertEqual(wish, self.wish)
        wish.deeds().clear()
        wish.calls().clear()
        wish.ties().clear()
        self.assertEqual((wish.deeds(), wish.calls(), len(wish.ties())), (DEEDS, [A, B], 3))

    def test_equality(self):
        turned = [dict(reversed(row.items())) for row in table()]
        self.assertTrue(Wish(DEEDS, turned) == self.wish)
        self.assertFalse(Wish(DEEDS, turned) != self.wish)
        other = table()
        other[1][B] = (2, 1)
        self.assertFalse(Wish(DEEDS, other) == self.wish)
        elsewhere = table()
        elsewhere[1][B] = (0, 0)
        self.assertFalse(Wish(DEEDS, elsewhere) == self.wish)
        self.assertFalse(Wish(DEEDS[::-1], table()) == self.wish)
        named = [{("c", 0): row[A], B: row[B]} for row in table()]
        self.assertFalse(Wish([("c", 1), ("b", 1)], named) == self.wish)
        for value in ODD + [self.wish.shape()]:
            self.assertIs(self.wish == value, False)


class WishOf(unittest.TestCase):

    def test_example(self):
        self.assertEqual(wish_of(V).ties(), [(0, 1), (0, 2), (1, 2)])
        self.assertEqual(wish_of(V).shape()[1][1], ((0, 0), (0, 1), (0, 2), (1, 1)))
        self.assertEqual(wish_of(W).many(), 2)
        self.assertEqual(wish_of(K).shape(), ((("lay", 1),), (((1, 1),), ((0, 1),))))
        self.assertEqual(wish_of(LOOSE).many(), 2)

    def test_like_the_slow_ones(self):
        found = set()
        for vault in [V, W, K, LOOSE] + [Maker(seed).vault(seed % 2 == 1) for seed in range(120)]:
            if len(states(vault)) > 20:
                continue
            try:
                wish = wish_of(vault)
            except NotSure:
                continue
            held = contents(vault)
            self.assertEqual(wish.deeds(), [(name, vault.choices(name)) for name in vault.names()])
            self.assertEqual(wish.many(), len(held))
            for index, content in enumerate(held):
                for call in vault.calls():
                    for state in content:
                        for _, answer, behind in outcomes(vault, state, call):
                            self.assertEqual(wish.answer(index, call), answer)
                            self.assertIn(behind, held[wish.after(index, call)])
            found.add((vault.has_coins(), min(wish.many(), 3)))
        self.assertEqual(found, {(coins, many) for coins in (False, True) for many in (1, 2, 3)})

    def test_too_wide(self):
        def ring(size):
            body = (("read", "a", 0), ("read", "b", 1), ("set", 0, ("+", "a", 1)),
                    ("if", ("=", "a", 7), (("set", 0, 0), ("set", 1, ("+", "b", 1))), ()),
                    ("if", ("*", ("=", "a", (size - 1) % 8), ("=", "b", (size - 1) // 8)), (("set", 0, 0), ("set", 1, 0), ("answer", 1)), ()))
            return Vault([(8, 0), (6, 0)], [("on", 1, body)])
        self.assertEqual(wish_of(ring(40)).many(), 40)
        with self.assertRaises(TooWide):
            wish_of(ring(41))
        for most, error in [(0, NoMost), (40, TooMany), (41, TooWide)]:
            with self.assertRaises(error):
                wish_of(ring(41), most=most)
        # It is not sure, and had too many contents, if it were.
        body = ring(41).rows("on")
        loose = Vault([(8, 0), (6, 0)], [("on", 1, body), ("flip", 1, (("coin", "a"), ("answer", "a")))])
        for most, error in [(True, NoMost), (40, TooMany), (41, NotSure)]:
            with self.assertRaises(error):
                wish_of(loose, most=most)
        with self.assertRaises(NotSure):
            wish_of(UNSURE)
        with self.assertRaises(TooMany):
            wish_of(counter(4, 7))


class Unkept(unittest.TestCase):

    def test_kept(self):
        for vault in [V, W, counter(2, 3)] + [Maker(seed).vault() for seed in range(100)]:
            if len(contents(vault)) <= 40:
                self.assertIs(unkept(vault, wish_of(vault)), None)
        self.assertIs(unkept(Vault([(1, 0)], [("a", 1, ())]), Wish([("a", 1)], [{A: (0, 0)}])), None)

    def test_as_short_as_can_be(self):
        found = set()
        for seed in range(1500):
            maker = Maker(seed)
            vault, other = maker.vault(), maker.vault()
            if vault.calls() == other.calls() and len(states(vault)) < 15 and len(contents(other)) < 15:
                self.right(vault, wish_of(other), found)
            if len(states(vault)) > 15:
                continue
            # A wish of the vault in which one thing is another.
            wish = wish_of(vault)
            told = [{call: (wish.answer(content, call), wish.after(content, call)) for call in wish.calls()} for content in range(wish.many())]
            content, call = maker.dice.randrange(wish.many()), maker.dice.choice(wish.calls())
            told[content][call] = (told[content][call][0], maker.dice.randrange(wish.many()))
            try:
                self.right(vault, Wish(wish.deeds(), told), found)
            except NoWish:
                pass
        self.assertTrue(found >= {None, 1, 2, 3}, found)

    def right(self, vault, wish, found):
        row = unkept(vault, wish)
        self.assertEqual(None if row is None else len(row), slow_wishes.unkept_length(vault, wish))
        found.add(row and len(row))
        if row:
            content = 0
            for call in row[:-1]:
                content = wish.after(content, call)
            self.assertNotEqual(answered(vault, row)[-1], wish.answer(content, row[-1]))

    def test_long(self):
        never = Wish([("inc", 1)], [{("inc", 0): (0, 0)}])
        self.assertEqual(unkept(counter(4, 6), never), [("inc", 0)] * 1296)
        self.assertEqual(unkept(counter(2, 6), Wish([("inc", 1)], [{("inc", 0): (0, at + 1)} for at in range(38)] +
                                                    [{("inc", 0): (1, 0)}])), [("inc", 0)] * 36)
        thirteen = Wish([("inc", 1)], [{("inc", 0): (0, at + 1)} for at in range(12)] + [{("inc", 0): (1, 0)}])
        self.assertEqual(len(unkept(counter(2, 4), thirteen)), 13)

    def test_errors(self):
        wish = wish_of(V)
        for vault in (K, LOOSE, UNSURE):
            with self.assertRaises(HasCoins):
                unkept(vault, wish, most=0)
        for vault in (W, counter(1, 2), Vault([(1, 0)], [("get", 1, ()), ("put", 3, ())]), Vault([(1, 0)], [("put", 3, ()), ("got", 1, ())]),
                      Vault([(1, 0)], [("put", 3, ()), ("get", 1, ()), ("more", 1, ())])):
            with self.assertRaises(OtherCalls):
                unkept(vault, wish, most=0)
        for value in odd_but(1, 7) + [100001]:
            with self.assertRaises(NoMost):
                unkept(V, wish, most=value)
        unkept(V, wish, most=3)
        # By the states alone, and also where the first call shows it.
        other = Wish([("put", 3), ("get", 1)], [{("put", 0): (1, 0), ("put", 1): (1, 0), ("put", 2): (1, 0), ("get", 0): (1, 0)}])
        self.assertEqual(len(unkept(V, other, most=3)), 1)
        with self.assertRaises(TooMany) as caught:
            unkept(V, other, most=2)
        self.assertEqual(caught.exception.most, 2)
        with self.assertRaises(TooMany) as caught:
            unkept(counter(4, 7), Wish([("inc", 1)], [{("inc", 0): (0, 0)}]))
        self.assertEqual(caught.exception.most, 2000)


if __name__ == "__main__":
    unittest.main()
