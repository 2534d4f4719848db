"""[21]: what is struck, and whether it is as if it had never been."""

import unittest

import slow_pasts
from pastless.errors import HasCoins, NoCall, NoMost, NoStruck, TooMany
from pastless.holds import states
from pastless.strikes import never, never_fault, spared
from pastless.vaults import Vault
from odd import ODD, odd_but
from slow import K, LOOSE, UNSURE, V, W, Maker, damaged

PUT, ONE, GET = ("put", 0), ("put", 1), ("get", 0)
# "mark" lays something down that "wipe" takes away; "copy" carries it to the other cell.
DEEDS = [("mark", 2, (("set", 1, "x"),)), ("put", 3, (("set", 0, "x"),)), ("wipe", 1, (("set", 1, 0),)),
         ("peep", 1, (("read", "a", 1), ("answer", "a"))), ("copy", 1, (("read", "a", 1), ("set", 0, "a")))]
MARKS = Vault([(3, 0), (2, 0)], DEEDS[:4])
COPIES = Vault([(3, 0), (2, 0)], DEEDS)


def ring(size):
    """One call goes on in a ring, the other one does nothing, and "end" tells whether it came round."""
    return Vault([(size, 0)], [("on", 1, (("read", "a", 0), ("set", 0, ("+", "a", 1)))), ("stay", 1, ()),
                               ("end", 1, (("read", "a", 0), ("if", ("=", "a", size - 1), (), (("set", 0, 0),))))])


class Spared(unittest.TestCase):

    def test_ordinary(self):
        row = [PUT, ONE, GET, ONE, PUT]
        self.assertEqual(spared(row, [ONE]), [PUT, GET, PUT])
        self.assertEqual(spared(row, [ONE, PUT, PUT]), [GET])
        self.assertEqual(spared(row, []), row)
        self.assertEqual(spared([], [ONE]), [])
        self.assertEqual(spared(row, row), [])
        self.assertEqual(spared(row, [("put", 2), ("cut", ONE, 0)]), row)

    def test_items_of_any_kind(self):
        items = [1, "1", (1,), ((1,),), (), "", 0, -1, ("put", 0), ("cut", ("put", 0), 1), "put", (("a", (2, ())), "b"), 10 ** 30]
        for item in items:
            self.assertEqual(spared(items + [item], [item]), [one for one in items if one != item])
        self.assertEqual(spared(items, items[::2]), items[1::2])
        deep = ()
        for _ in range(60):
            deep = (deep,)
        self.assertEqual(spared([deep, (deep,), 1], [deep]), [(deep,), 1])

    def test_new(self):
        row, calls = [PUT, ONE], [GET]
        told = spared(row, calls)
        self.assertEqual(told, row)
        told.append(GET)
        self.assertEqual((row, calls), ([PUT, ONE], [GET]))
        self.assertEqual(spared(row, calls), [PUT, ONE])


class Never(unittest.TestCase):

    def right(self, vault, struck, close):
        thing = never(vault, struck, close)
        length = slow_pasts.showing_length(vault, struck, close)
        if length is None:
            self.assertEqual(thing[0], "never")
            self.assertTrue(set(thing[1]) >= set(slow_pasts.struck_pairs(vault, struck)))
        else:
            self.assertEqual((thing[0], len(thing[1])), ("shows", length))
        self.assertIs(slow_pasts.never_fault(vault, struck, close, thing), None)
        self.assertIs(never_fault(vault, struck, close, thing), None)
        return thing

    def test_example(self):
        self.assertEqual(never(W, [ONE], PUT), ("shows", [ONE]))
        self.assertEqual(self.right(V, [ONE], PUT)[0], "never")

    def test_none_one_and_several(self):
        for close in MARKS.calls():
            self.assertEqual(self.right(MARKS, [], close)[0], "never")
        marks, wipe = [("mark", 0), ("mark", 1)], ("wipe", 0)
        for struck in (marks, marks[1:], marks[1:] * 2, marks * 2 + marks[::-1], marks[::-1], marks + [("peep", 0)]):
            self.assertEqual(self.right(MARKS, struck, wipe)[0], "never")
            self.assertEqual(self.right(COPIES, struck, wipe)[0], "shows")
            self.assertEqual(self.right(MARKS, struck, ("put", 1))[0], "shows")
            self.assertEqual(never(MARKS, struck, wipe), never(MARKS, struck[::-1], wipe))
        self.assertEqual(self.right(COPIES, [("mark", 0)], wipe)[0], "shows")
        self.assertEqual(self.right(COPIES, [("copy", 0)], ("put", 0))[0], "never")
        self.assertEqual(self.right(MARKS, MARKS.calls(), wipe)[0], "shows")

    def test_like_the_slow_ones(self):
        kinds, faults = set(), set()
        for seed in range(250):
            maker = Maker(seed)
            vault = maker.vault()
            if len(states(vault)) > 14:
                continue
            calls = vault.calls()
            struck, close = [maker.dice.choice(calls) for _ in range(maker.dice.randrange(4))], maker.dice.choice(calls)
            thing = self.right(vault, struck, close)
            kinds.add((thing[0], min(len(thing[1]), 3)))
            for _ in range(3 if thing[1] else 0):
                wrong = damaged(maker.dice, thing)
                fault = never_fault(vault, struck, close, wrong)
                self.assertEqual(fault, slow_pasts.never_fault(vault, struck, close, wrong))
                faults.add((thing[0], fault and fault[0]))
        self.assertTrue(kinds >= {("never", 1), ("never", 3), ("shows", 1), ("shows", 2)}, kinds)
        self.assertTrue(faults >= {("never", None), ("never", "first"), ("never", "behind"), ("shows", None), ("shows", "same")})

    def test_a_long_past(self):
        # "end" shows it just where one of both is at the last place: struck are the calls that go on.
        vault = ring(8)
        kind, row = self.right(vault, [("on", 0)], ("end", 0))
        self.assertEqual((kind, row), ("shows", [("on", 0)] * 7))

    def test_order_of_errors(self):
        for vault in (K, LOOSE, UNSURE):
            with self.assertRaises(HasCoins):
                never(vault, None, None, most=0)
            with self.assertRaises(HasCoins):
                never_fault(vault, None, None, None)
        wrong = odd_but([], [PUT]) + [(PUT,), [PUT, ("put", 2)], [("get", False)], [["put", 0]], PUT, {PUT: 0}, [[PUT]], [None]]
        for value in wrong:
            with self.assertRaises(NoStruck):
                never(W, value, None, most=0)
            with self.assertRaises(NoStruck):
                never_fault(W, value, None, None)
        for value in odd_but(PUT) + [("put", 2), ("get", False), ["put", 0], [PUT]]:
            with self.assertRaises(NoCall):
                never(W, [PUT], value, most=0)
            with self.assertRaises(NoCall):
                never_fault(W, [PUT], value, None)
        for value in odd_but(1, 7) + [100001]:
            with self.assertRaises(NoMost):
                never(W, [PUT], PUT, most=value)

    def test_too_many(self):
        # Its states alone are too many.
        with self.assertRaises(TooMany) as caught:
            never(W, [], GET, most=3)
        self.assertEqual(caught.exception.most, 3)
        never(W, [], GET, most=4)
        # A ring and what is left: each state with each other one; a past of one call shows it.
        vault = Vault([(7, 0)], [(name, 1, (("read", "a", 0), ("if", ("=", "a", 6), (("set", 0, 0),), (("set", 0, ("+", "a", 1)),))))
                                 for name in ("on", "go")])
        many = len(slow_pasts.struck_pairs(vault, [("on", 0)]))
        self.assertEqual(many, 49)
        self.assertEqual(never(vault, [("on", 0)], ("on", 0), most=49), ("shows", [("on", 0)]))
        for most in (7, 48):
            with self.assertRaises(TooMany) as caught:
                never(vault, [("on", 0)], ("on", 0), most=most)
            self.assertEqual(caught.exception.most, most)
        self.assertEqual(never(vault, [], ("on", 0), most=7)[0], "never")
        # 2000 is the bound that is left out: 45 states make 2025 tuples, 44 states 1936.
        for size, right in ((44, True), (45, False)):
            cells = [(5, 0), (9, 0)]
            step = (("read", "a", 0), ("read", "b", 1), ("set", 0, ("+", "a", 1)),
                    ("if", ("=", "a", 4), (("set", 0, 0), ("set", 1, ("+", "b", 1)), ("if", ("=", "b", 8), (("set", 1, 0),), ())), ()))
            if right:
                step = step + (("read", "c", 0), ("read", "d", 1),
                               ("if", ("*", ("=", "c", 4), ("=", "d", 8)), (("set", 0, 0), ("set", 1, 0)), ()))
            wide = Vault(cells, [("on", 1, step), ("go", 1, step)])
            self.assertEqual(len(states(wide)), size)
            if right:
                self.assertEqual(never(wide, [("on", 0)], ("on", 0))[0], "shows")
            else:
                with self.assertRaises(TooMany):
                    never(wide, [("on", 0)], ("on", 0))
                self.assertEqual(never(wide, [("on", 0)], ("on", 0), most=2025)[0], "shows")


class Fault(unittest.TestCase):

    def test_form(self):
        for value in ODD + [["never", []], ("never",), ("never", [], []), ("shows", None), ("shows", (PUT,)), ("shows", [("put", 2)]),
                            ("shows", [("get", False)]), ("shows", [], []), ("never", [(0, 0)]), ("never", [((0, 0), (0, 2))]),
                            ("never", [((0, 0), (False, 0))]), ("never", (((0, 0), (0, 0)),)), ("Shows", [])]:
            self.assertEqual(never_fault(W, [ONE], PUT, value), ("form",))
            for word in ("never", "shows"):
                if value not in ([], [PUT]):
                    self.assertEqual(never_fault(W, [ONE], PUT, (word, value)), ("form",))
                    self.assertEqual(never_fault(W, [ONE], PUT, (word, [value])), ("form",) if value != PUT or word == "never" else ("same",))

    def test_never(self):
        pairs = never(V, [ONE], PUT)[1]
        self.assertIs(never_fault(V, [ONE], PUT, ("never", pairs)), None)
        self.assertIs(never_fault(V, [ONE], PUT, ("never", pairs[::-1] * 2)), None)
        self.assertEqual(never_fault(V, [ONE], PUT, ("never", [])), ("first",))
        self.assertEqual(never_fault(V, [ONE], PUT, ("never", [((1,), (1,))])), ("first",))
        self.assertEqual(never_fault(V, [ONE], PUT, ("never", [((0,), (0,))])), ("behind", 0, ONE))
        self.assertEqual(never_fault(V, [], PUT, ("never", [((1,), (1,)), ((0,), (0,))])), ("behind", 0, ("put", 2)))
        self.assertEqual(never_fault(V, [ONE], PUT, ("never", [((0,), (0,)), ((1,), (0,))])), ("behind", 0, ("put", 2)))
        self.assertEqual(never_fault(V, [ONE, ("put", 2)], PUT, ("never", [((0,), (0,)), ((1,), (0,))])), ("behind", 0, ("put", 2)))
        # Whatever call is struck and stands twice in the list.
        self.assertIs(never_fault(V, [ONE, ONE], PUT, ("never", pairs)), None)
        # All tuples behind come ahead of the closing call.
        every = [((s,), (t,)) for s in range(3) for t in range(3)]
        self.assertIs(never_fault(V, [ONE], PUT, ("never", every)), None)
        self.assertEqual(never_fault(V, [ONE], GET, ("never", every)), ("close", 1))
        self.assertEqual(never_fault(V, [ONE], GET, ("never", every[1:] + every[:1])), ("close", 0))
        self.assertEqual(never_fault(V, [ONE], GET, ("never", every[:8])), ("behind", 0, ("put", 2)))

    def test_shows(self):
        self.assertIs(never_fault(W, [ONE], PUT, ("shows", [ONE])), None)
        self.assertIs(never_fault(W, [ONE], PUT, ("shows", [ONE, PUT, ONE, GET])), None)
        for row in ([], [PUT], [ONE, PUT], [GET] * 500):
            self.assertEqual(never_fault(W, [ONE], PUT, ("shows", row)), ("same",))
        self.assertEqual(never_fault(W, [], PUT, ("shows", [ONE])), ("same",))
        self.assertEqual(never_fault(V, [ONE], PUT, ("shows", [ONE])), ("same",))
        self.assertIs(never_fault(V, [ONE], GET, ("shows", [ONE])), None)


if __name__ == "__main__":
    unittest.main()
