"""[15] and [16]: one look."""

import unittest

from pastless.errors import HasCoins, NoNames, NotSure
from pastless.holds import contents, most_layouts, states
from pastless.looks import past_fault, past_paper, pastless
from pastless.runs import led, share
from pastless.vaults import Vault
import slow
from odd import ODD, odd_but
from slow import K, LOOSE, UNSURE, V, W, Maker, counter, damaged

ONE = (1, 1)
# What is put is kept beside what was put before, until it is tidied.
TIDY = Vault([(2, 0), (2, 0)], [("put", 2, (("read", "a", 0), ("set", 1, "a"), ("set", 0, "x"))), ("tidy", 1, (("set", 1, 0),)),
                                ("get", 1, (("read", "a", 0), ("answer", "a")))])
# Two coins that lie otherwise, but tell nothing.
TWO = Vault([(3, 0), (2, 0)], [("lay", 1, (("read", "a", 0), ("if", "a", (("answer", 0),), ()), ("coin", "b"),
                                           ("set", 0, ("+", "b", 1)), ("coin", "c"), ("set", 1, "c"), ("answer", 1))),
                               ("turn", 1, (("read", "a", 0), ("if", "a", (("coin", "b"), ("set", 1, "b")), ())))])
# Like TIDY, but the coin is thrown only behind "one" and then "two".
STAGED = Vault([(2, 0), (3, 0)], [("one", 1, (("swap", "a", 1, 0, 1),)), ("two", 1, (("swap", "a", 1, 1, 2),)),
                                  ("toss", 1, (("read", "a", 1), ("if", ("=", "a", 2), (("coin", "b"), ("set", 0, "b")), ()))),
                                  ("see", 1, (("read", "a", 1), ("answer", "a")))])
# Each state leads by two calls to others: 0 and 3 are like, and so are 6 and 7. 3 is three calls away, 6 and 7 are two.
WEB = ((1, 5), (2, 1), (3, 2), (1, 5), (4, 4), (6, 7), (6, 6), (7, 7))
LOOK = (0, 1, 2, 0, 4, 5, 6, 6)


def web(leads, answers):
    """A vault of one cell with two calls, which lead from each state to others; both answer what is told of the state."""
    rows = ()
    for state, behind in enumerate(leads):
        go = (("if", "x", (("set", 0, behind[1]),), (("set", 0, behind[0]),)), ("answer", answers[state]))
        rows += (("if", ("=", "a", state), go, ()),)
    return Vault([(len(leads), 0)], [("go", 2, (("read", "a", 0),) + rows), ("stay", 1, ())])


def all_behind(vault):
    """Each list of names, and None."""
    names = vault.names()
    lists = [[name for at, name in enumerate(names) if which >> at & 1] for which in range(1, 2 ** len(names))]
    return [None] + lists + [names[::-1]]


class Pastless(unittest.TestCase):

    def test_plain(self):
        self.assertIs(pastless(V), True)
        self.assertIs(pastless(W), False)
        self.assertIs(pastless(TIDY), False)
        self.assertIs(pastless(counter(3, 4)), True)
        for seed in range(0, 100, 2):
            vault = Maker(seed).vault()
            self.assertEqual(pastless(vault), most_layouts(vault) == 1)

    def test_coins(self):
        self.assertIs(pastless(K), True)
        self.assertIs(pastless(TWO), True)
        self.assertIs(pastless(LOOSE), False)
        self.assertIs(pastless(STAGED), False)

    def test_behind(self):
        self.assertIs(pastless(TIDY, behind=["tidy"]), True)
        self.assertIs(pastless(TIDY, behind=["put"]), False)
        self.assertIs(pastless(TIDY, behind=["get"]), False)
        self.assertIs(pastless(TIDY, behind=["tidy", "get"]), False)
        once = Vault([(2, 0)], [("lay", 1, (("set", 0, 1),)), ("see", 1, ())])
        # The empty past counts only with None.
        self.assertIs(pastless(once), False)
        self.assertIs(pastless(once, behind=["lay"]), True)
        self.assertIs(pastless(once, behind=["see"]), False)

    def test_errors(self):
        wrong = [value for value in odd_but(None) if value != ["put"]]
        wrong += [[], ["put", "put"], ["none"], ["put", "none"], ["put", None], ("put",), "put", {"put": 1}, [["put"]], [0]]
        for what in (pastless, past_paper, lambda vault, behind: past_fault(vault, None, behind=behind)):
            for value in wrong:
                with self.assertRaises(NoNames):
                    what(V, behind=value)
            with self.assertRaises(NoNames):
                what(LOOSE, behind=["none"])
            for vault in (K, LOOSE, UNSURE):
                with self.assertRaises(HasCoins):
                    what(vault, behind=vault.names())
        for what in (pastless, past_paper):
            with self.assertRaises(NotSure):
                what(UNSURE)
        self.assertEqual(past_fault(UNSURE, None), ("form",))


class Paper(unittest.TestCase):

    def test_example(self):
        kind, one, other, pairs = past_paper(W)
        self.assertEqual((kind, len(one) + len(other)), ("pasts", 2))
        self.assertIs(past_fault(W, ("pasts", [("put", 1), ("put", 0)], [], pairs)), None)
        self.assertEqual(past_paper(V)[1], [{(at,): ONE} for at in range(3)])
        self.assertIs(past_fault(V, ("table", [{(at,): ONE} for at in range(3)], [[("get", 0)]])), None)

    def test_right(self):
        vaults = [V, W, K, LOOSE, TIDY, TWO, STAGED, web(WEB, LOOK), counter(3, 4)] + [Maker(seed).vault(seed % 2 == 1) for seed in range(160)]
        for vault in vaults:
            if not slow.is_sure(vault):
                continue
            for behind in [None] if vault.has_coins() else all_behind(vault):
                paper = past_paper(vault, behind=behind)
                self.assertEqual(paper[0] == "table", pastless(vault, behind=behind))
                self.assertIs(past_fault(vault, paper, behind=behind), None)
                if len(states(vault)) < 20:
                    self.assertIs(slow.past_fault(vault, paper, behind), None)
                if paper[0] == "pasts" and not vault.has_coins():
                    self.shortest(vault, paper, behind)

    def shortest(self, vault, paper, behind):
        total = len(paper[1]) + len(paper[2])
        found = slow.shares_by_content(vault, behind, total)
        sums = [sum(sorted(lengths.values())[:2]) for lengths in found.values() if len(lengths) > 1]
        self.assertEqual(total, min(sums))

    def test_the_least_sum(self):
        # The first two like states that are met are not those with the least sum.
        vault = web(WEB, LOOK)
        paper = past_paper(vault)
        self.assertEqual(sorted([paper[1], paper[2]]), [[], [("go", 0)] * 3])
        self.assertIs(past_fault(vault, paper), None)
        paper = past_paper(vault, behind=["go"])
        self.assertEqual(sorted([paper[1], paper[2]]), [[("go", 1), ("go", 0)], [("go", 1), ("go", 1)]])
        paper = past_paper(vault, behind=["stay"])
        self.assertEqual(sorted([paper[1], paper[2]]), [[("go", 0)] * 3 + [("stay", 0)], [("stay", 0)]])

    def test_the_least_sum_of_made_webs(self):
        sums = set()
        for seed in range(150):
            dice = Maker(seed).dice
            leads = [(dice.randrange(8), dice.randrange(8)) for _ in range(8)]
            vault = web(leads, [dice.randrange(3) * dice.randrange(2) for _ in range(8)])
            for behind in (None, ["go"], ["stay"]):
                paper = past_paper(vault, behind=behind)
                if paper[0] == "pasts":
                    self.shortest(vault, paper, behind)
                    sums.add(len(paper[1]) + len(paper[2]))
        self.assertTrue(sums >= {1, 2, 3, 4, 5}, sums)

    def test_long_book(self):
        vault = counter(4, 6)
        paper = past_paper(vault)
        self.assertEqual(len(paper[1]), 1296)
        self.assertIs(past_fault(vault, paper), None)
        self.assertEqual(past_fault(vault, paper[:2] + (paper[2][:-1],))[0], "alike")

    def test_long_pasts(self):
        # Only behind hundreds of calls a bit is left that tells nothing.
        cells = [(2, 0)] + [(9, 0)] * 3
        body = (("set", 0, 1),)
        for cell in (1, 2, 3):
            body = (("read", "a", cell), ("set", cell, ("+", "a", 1)), ("if", ("=", "a", 8), body + (("answer", cell),), ()))
        vault = Vault(cells, [("inc", 1, body)])
        kind, one, other, pairs = past_paper(vault)
        self.assertEqual((kind, sorted([len(one), len(other)])), ("pasts", [0, 729]))
        self.assertIs(past_fault(vault, (kind, one, other, pairs)), None)
        self.assertEqual(past_fault(vault, (kind, one, other, pairs[:-1]))[0], "pair")


class Form(unittest.TestCase):

    def test_any_thing(self):
        for thing in ODD:
            fault = past_fault(V, thing)
            self.assertEqual(fault, ("first",) if thing == ("table", [], []) else
                             ("same",) if thing == ("pasts", [], [], []) else ("form",))

    def test_table(self):
        shares, book = [{(at,): ONE} for at in range(3)], [[("get", 0)]]
        half = {(0,): (1, 2), (1,): (1, 2)}
        self.assertIs(past_fault(V, ("table", shares, book)), None)
        wrong = [["table", shares, book], ("table", shares), ("table", shares, book, []), ("tables", shares, book),
                 ("pasts", shares, book), ("table", tuple(shares), book), ("table", shares, tuple(book)),
                 ("table", shares, [(("get", 0),)]), ("table", shares, [[("get", 1)]]), ("table", shares, [[("get", False)]]),
                 ("table", shares, [("get", 0)]), ("table", shares, None), ("table", None, book), ("table", {}, book)]
        bad = [{}, [], None, ((0,),), {(0,): 1}, {(0,): (1, 1, 1)}, {(0,): [1, 1]}, {(0,): (2, 2)}, {(0,): (1, 2)}, {(0,): (2, 1)},
               {(0,): (True, 1)}, {(0,): (1, True)}, {(0,): (0, 1)}, {(0,): (-1, -1)}, {(0,): (1, 0)}, {(0,): ("1", 1)}, {(3,): ONE},
               {(True,): ONE}, {0: ONE}, {(0, 0): ONE}, {None: ONE}, {(0,): (1, 2), (1,): (1, 3)}, {(0,): (1, 2), (1,): (2, 4)},
               {(0,): ONE, (1,): (0, 1)}, {(0,): ONE, (1,): ONE}, {(0,): (1, 2), (1,): (1, 4), (2,): (1, 8)}, {V.names: ONE}]
        wrong += [("table", shares + [one], book) for one in bad]
        for thing in wrong:
            self.assertEqual(past_fault(V, thing), ("form",), thing)
        for one in [half, {(0,): (1, 6), (1,): (1, 3), (2,): (1, 2)}, {(0,): (10 ** 30, 10 ** 30 + 1), (2,): (1, 10 ** 30 + 1)}]:
            self.assertNotEqual(past_fault(V, ("table", shares + [one], book)), ("form",))

    def test_pasts(self):
        one, other, pairs = [("put", 1), ("put", 0)], [], [((0, 0), (0, 1))]
        self.assertIs(past_fault(W, ("pasts", one, other, pairs)), None)
        for thing in [["pasts", one, other, pairs], ("pasts", one, other), ("pasts", one, other, pairs, []), ("past", one, other, pairs),
                      ("table", one, other, pairs), ("pasts", tuple(one), other, pairs), ("pasts", one, (), pairs),
                      ("pasts", one, other, tuple(pairs)), ("pasts", [("put", True)], other, pairs), ("pasts", [("put", 2)], other, pairs),
                      ("pasts", one, [None], pairs), ("pasts", one, other, [((0, 0), (0, 2))]), ("pasts", one, other, [[(0, 0), (0, 1)]]),
                      ("pasts", one, other, [((0, 0), (0, True))]), ("pasts", None, other, pairs), ("pasts", one, other, None)]:
            self.assertEqual(past_fault(W, thing), ("form",))


class TableFault(unittest.TestCase):

    def test_first(self):
        self.assertEqual(past_fault(V, ("table", [], [])), ("first",))
        self.assertEqual(past_fault(V, ("table", [{(1,): ONE}, {(2,): ONE}], [])), ("first",))
        self.assertEqual(past_fault(V, ("table", [{(0,): (1, 2), (1,): (1, 2)}], [])), ("first",))

    def test_answer(self):
        half = {(0,): (1, 2), (1,): (1, 2)}
        self.assertEqual(past_fault(V, ("table", [{(at,): ONE} for at in range(3)] + [half], [])), ("answer", 3, ("get", 0)))
        self.assertEqual(past_fault(UNSURE, ("table", [{(0,): ONE}, {(0,): (1, 2), (1,): (1, 2)}], [])), ("answer", 1, ("get", 0)))
        # The first share, and for it the first call, whatever applies to it.
        self.assertEqual(past_fault(V, ("table", [half, {(0,): ONE}], [])), ("behind", 0, ("put", 1)))
        self.assertEqual(past_fault(V, ("table", [{(0,): ONE}, half], [])), ("behind", 0, ("put", 1)))

    def test_behind(self):
        self.assertEqual(past_fault(V, ("table", [{(0,): ONE}, {(1,): ONE}], [])), ("behind", 0, ("put", 2)))
        self.assertEqual(past_fault(K, ("table", [{(0,): ONE}], [])), ("behind", 0, ("lay", 0)))
        third = {(1,): (1, 3), (2,): (2, 3)}
        self.assertEqual(past_fault(K, ("table", [{(0,): ONE}, third], [])), ("behind", 0, ("lay", 0)))
        # Shares may have any chances, if the calls lead from them to such as are there.
        half = {(1,): (1, 2), (2,): (1, 2)}
        self.assertIs(past_fault(K, ("table", [half, {(0,): ONE}], [[("lay", 0)]])), None)
        self.assertEqual(past_fault(K, ("table", [half, {(0,): ONE}, third], [[("lay", 0)]])), ("alike", 0, 2))
        spin = Vault([(2, 0)], [("spin", 1, (("read", "a", 0), ("set", 0, ("+", "a", 1))))])
        shares = [{(0,): (1, 3), (1,): (2, 3)}, {(0,): ONE}, {(1,): ONE}]
        self.assertEqual(past_fault(spin, ("table", shares, [])), ("behind", 0, ("spin", 0)))
        shares += [{(1,): (1, 3), (0,): (2, 3)}]
        self.assertEqual(past_fault(spin, ("table", shares, [])), ("alike", 0, 1))

    def test_alike(self):
        shares = [{(at,): ONE} for at in range(3)]
        self.assertEqual(past_fault(V, ("table", shares, [])), ("alike", 0, 1))
        # The empty row parts nothing, and neither does one whose last answers are the same.
        self.assertEqual(past_fault(V, ("table", shares, [[], [("get", 0), ("put", 1)], [("put", 1), ("get", 0)]])), ("alike", 0, 1))
        self.assertIs(past_fault(V, ("table", shares, [[], [("put", 1)], [("get", 0), ("get", 0)]])), None)
        # A share that stands twice is no fault.
        self.assertIs(past_fault(V, ("table", shares + shares, [[("get", 0)]])), None)
        self.assertEqual(past_fault(V, ("table", [shares[0]] + shares, [])), ("alike", 0, 2))
        steps = Vault([(4, 0)], [("set", 4, (("set", 0, "x"),)), ("low", 1, (("read", "a", 0), ("answer", ("<", "a", 2)))),
                                 ("odd", 1, (("read", "a", 0), ("answer", ("+", ("=", "a", 1), ("=", "a", 3)))))])
        shares = [{(at,): ONE} for at in range(4)]
        low, odd = [("low", 0)], [("low", 0), ("odd", 0)]
        self.assertEqual(past_fault(steps, ("table", shares, [low])), ("alike", 0, 1))
        self.assertEqual(past_fault(steps, ("table", shares, [odd])), ("alike", 0, 2))
        self.assertIs(past_fault(steps, ("table", shares, [odd, low])), None)
        self.assertEqual(past_fault(steps, ("table", [shares[at] for at in (0, 2, 3, 1)], [low])), ("alike", 0, 3))

    def test_what_counts(self):
        shares = [{state: ONE} for state in [(0, 0), (1, 0), (0, 1), (1, 1)]]
        book = [[("get", 0)]]
        self.assertEqual(past_fault(TIDY, ("table", shares, book)), ("alike", 0, 2))
        self.assertIs(past_fault(TIDY, ("table", shares, book), behind=["tidy"]), None)
        self.assertEqual(past_fault(TIDY, ("table", shares, []), behind=["tidy"]), ("alike", 0, 1))
        self.assertEqual(past_fault(TIDY, ("table", shares, book), behind=["put"]), ("alike", 0, 2))
        self.assertEqual(past_fault(TIDY, ("table", shares, book), behind=["tidy", "put"]), ("alike", 0, 2))
        # What is right behind a call from a share of the list counts, though no past has it.
        more = [{(1, 0): (1, 3), (1, 1): (2, 3)}] + shares
        self.assertIs(past_fault(TIDY, ("table", more, book), behind=["tidy"]), None)
        self.assertEqual(past_fault(TIDY, ("table", more, book), behind=["get"]), ("alike", 0, 2))
        still = Vault([(2, 0)], [("stay", 1, ()), ("zero", 1, (("set", 0, 0),))])
        shares = [{(0,): ONE}, {(0,): (1, 2), (1,): (1, 2)}]
        self.assertEqual(past_fault(still, ("table", shares, []), behind=["stay"]), ("alike", 0, 1))
        self.assertIs(past_fault(still, ("table", shares, []), behind=["zero"]), None)


class PastsFault(unittest.TestCase):

    def fault(self, vault, one, other, pairs, behind=None):
        return past_fault(vault, ("pasts", one, other, pairs), behind=behind)

    def test_count(self):
        one, other, pairs = [("put", 1), ("put", 0)], [], [((0, 0), (0, 1))]
        self.assertIs(self.fault(W, one, other, pairs), None)
        self.assertEqual(self.fault(W, one, other, pairs, ["put"]), ("count", 1))
        self.assertEqual(self.fault(W, other, one, pairs, ["put"]), ("count", 0))
        self.assertEqual(self.fault(W, one, other, pairs, ["get"]), ("count", 0))
        self.assertEqual(self.fault(W, one + [("get", 0)], one, pairs, ["get"]), ("count", 1))
        self.assertIs(self.fault(W, one, [("put", 0)], pairs, ["put"]), None)
        self.assertIs(self.fault(W, one, [("get", 0)], pairs, ["put", "get"]), None)

    def test_same(self):
        self.assertEqual(self.fault(W, [], [], []), ("same",))
        self.assertEqual(self.fault(W, [("put", 0)], [], [((0, 0), (1, 1))]), ("same",))
        self.assertEqual(self.fault(K, [("lay", 0)], [("lay", 0)] * 2, []), ("same",))

    def test_first(self):
        self.assertEqual(self.fault(W, [("put", 1), ("put", 0)], [], []), ("first", (0, 1), (0, 0)))
        toss, put = ("toss", 0), ("put", 0)
        self.assertEqual(share(LOOSE, [toss]), {(0, 0): (1, 2), (0, 1): (1, 2)})
        self.assertEqual(self.fault(LOOSE, [toss], [put], []), ("first", (0, 1), (0, 0)))
        self.assertEqual(self.fault(LOOSE, [put], [toss], []), ("first", (0, 0), (0, 1)))
        self.assertEqual(self.fault(LOOSE, [toss], [toss, ("put", 1)], [((0, 0), (1, 0))]), ("first", (0, 0), (1, 1)))
        self.assertEqual(self.fault(LOOSE, [toss], [toss, ("put", 1)], [((0, 0), (1, 1)), ((1, 0), (0, 0))]), ("first", (0, 1), (1, 0)))
        self.assertIs(self.fault(LOOSE, [toss], [put], [((0, 1), (0, 0)), ((1, 1), (1, 0))]), None)

    def test_answer_and_pair(self):
        one, pairs = [("put", 1), ("put", 0)], [((0, 0), (0, 1))]
        self.assertEqual(self.fault(W, one, [], pairs + [((0, 0), (1, 0))]), ("pair", 1, ("put", 1)))
        self.assertEqual(self.fault(W, one, [], pairs + [((0, 0), (1, 0)), ((0, 0), (1, 1))]), ("answer", 1, ("get", 0)))
        self.assertEqual(self.fault(LOOSE, [("toss", 0)], [], [((0, 1), (0, 0))]), ("pair", 0, ("put", 1)))
        self.assertEqual(self.fault(V, [("put", 1)], [], [((0,), (1,))]), ("answer", 0, ("get", 0)))

    def test_like_the_slow_ones(self):
        faults = set()
        for seed in range(200):
            maker = Maker(seed)
            vault = maker.vault(seed % 2 == 1)
            if not slow.is_sure(vault) or len(states(vault)) > 12:
                continue
            for behind in [None] if vault.has_coins() else [None, [maker.dice.choice(vault.names())]]:
                paper = past_paper(vault, behind=behind)
                for _ in range(4):
                    thing = damaged(maker.dice, paper)
                    fault = past_fault(vault, thing, behind=behind)
                    self.assertEqual(fault, slow.past_fault(vault, thing, behind))
                    faults.add((paper[0], fault and fault[0]))
        self.assertTrue(faults >= {("table", "first"), ("table", "behind"), ("table", "alike"), ("table", None), ("pasts", "count"),
                                   ("pasts", "same"), ("pasts", "first"), ("pasts", "pair"), ("pasts", None)})


class Facts(unittest.TestCase):

    def test_each_content_is_one_state(self):
        for vault in (V, W, TIDY, counter(2, 3)):
            self.assertEqual(pastless(vault), all(len(held) == 1 for held in contents(vault)))
        for paper in (past_paper(W), past_paper(W, behind=["get"])):
            self.assertNotEqual(led(W, paper[1]), led(W, paper[2]))


if __name__ == "__main__":
    unittest.main()
