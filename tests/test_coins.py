"""[29] and [30]: coins, and more than one look."""

import unittest

import slow_wishes
from pastless.coins import forever, forever_fault, forever_paper, returns
from pastless.errors import NoMost, NotSure, TooMany
from pastless.holds import states
from pastless.looks import past_fault, past_paper, pastless
from pastless.runs import share
from pastless.vaults import Vault, begun
from odd import ODD, odd_but
from slow import K, LOOSE, UNSURE, V, W, Maker, counter, damaged, is_sure
from slow_wishes import laying_coins

ONE = (1, 1)
HALF = {(1,): (1, 2), (2,): (1, 2)}
# Like K, but each further call throws the coin anew: one look tells nothing, but two do.
ANEW = Vault([(3, 0)], [("lay", 1, (("read", "a", 0), ("coin", "b"), ("set", 0, ("+", "b", 1)), ("answer", ("=", "a", 0))))])
# The same, and "clear" comes back to the beginning.
BACK = Vault([(3, 0)], list(ANEW.shape()[1]) + [("clear", 1, (("set", 0, 0),))])
# Only behind three calls is there a state from which it is not pastless.
LATE = Vault([(4, 0), (3, 0)], [("on", 1, (("read", "a", 0), ("if", ("<", "a", 3), (("set", 0, ("+", "a", 1)), ("answer", 1)), ()),
                                           ("coin", "b"), ("read", "c", 1), ("set", 1, ("+", "b", 1)), ("answer", ("=", "c", 0))))])
# A coin falls, but whatever it tells is laid nowhere.
IDLE = Vault([(2, 0)], [("toss", 1, (("coin", "a"),)), ("put", 2, (("set", 0, "x"),)), ("get", 1, (("read", "a", 0), ("answer", "a")))])
# It goes on and never comes back.
ONCE = Vault([(3, 0)], [("on", 1, (("read", "a", 0), ("if", ("<", "a", 2), (("set", 0, ("+", "a", 1)),), ()), ("answer", "a")))])


class Forever(unittest.TestCase):

    def test_ordinary(self):
        for vault, once, ever in [(V, True, True), (W, False, False), (K, True, True), (LOOSE, False, False), (ANEW, True, False),
                                  (BACK, True, False), (LATE, True, False), (IDLE, True, True), (ONCE, True, True), (counter(2, 4), True, True),
                                  (laying_coins(3), True, True), (laying_coins(6), True, True)]:
            self.assertIs(pastless(vault), once)
            self.assertIs(forever(vault), ever)
            self.assertEqual(forever_paper(vault)[0], "tables" if ever else "looks")

    def test_like_the_slow_ones(self):
        found, faults = set(), set()
        for vault in [V, W, K, LOOSE, ANEW, BACK, LATE, IDLE, ONCE, laying_coins(2)] + [Maker(seed).vault(seed % 3 > 0) for seed in range(240)]:
            if not is_sure(vault) or len(states(vault)) > 14:
                continue
            ever = slow_wishes.is_pastless_forever(vault)
            self.assertIs(forever(vault), ever)
            paper = forever_paper(vault)
            self.assertEqual(paper[0], "tables" if ever else "looks")
            self.assertIs(forever_fault(vault, paper), None)
            self.assertIs(slow_wishes.forever_fault(vault, paper), None)
            found.add((ever, pastless(vault), vault.has_coins()))
            dice = Maker(len(faults)).dice
            for _ in range(4):
                wrong = damaged(dice, paper)
                if paper[0] == "tables" and dice.random() < 0.3 and len(wrong[1]) > 1:
                    del wrong[1][dice.choice(list(wrong[1]))]
                fault = forever_fault(vault, wrong)
                self.assertEqual(fault, slow_wishes.forever_fault(vault, wrong))
                faults.add((paper[0], fault and fault[0]))
        self.assertEqual(found, {(True, True, False), (True, True, True), (False, False, False), (False, False, True), (False, True, True)})
        self.assertTrue(faults >= {("tables", None), ("tables", "first"), ("tables", "table"), ("tables", "lack"), ("looks", None),
                                   ("looks", "pasts")}, faults)

    def test_paper(self):
        kind, tables = forever_paper(K)
        self.assertEqual(set(tables), {(0,), (1,), (2,)})
        for state, (shares, book) in tables.items():
            self.assertIs(past_fault(begun(K, state), ("table", shares, book)), None)
        self.assertIn(HALF, tables[(0,)][0])
        self.assertEqual([tables[(1,)][0], tables[(2,)][0]], [[{(1,): ONE}], [{(2,): ONE}]])
        kind, past, state, one, other, pairs = forever_paper(ANEW)
        self.assertIn(state, share(ANEW, past))
        self.assertIs(past_fault(begun(ANEW, state), ("pasts", one, other, pairs)), None)
        self.assertNotEqual(state, (0,))
        kind, past, state, one, other, pairs = forever_paper(LATE)
        self.assertEqual(len(past), 4)
        self.assertIs(forever_fault(LATE, (kind, past, state, one, other, pairs)), None)

    def test_errors(self):
        for what in (forever, forever_paper, returns):
            with self.assertRaises(NotSure):
                what(UNSURE)
            for value in odd_but(1, 7) + [100001]:
                for vault in (V, UNSURE):
                    with self.assertRaises(NoMost):
                        what(vault, most=value)
            for vault in (V, W, K, LOOSE, UNSURE, ANEW, counter(2, 5)):
                many = len(states(vault))
                with self.assertRaises(TooMany) as caught:
                    what(vault, most=many - 1)
                self.assertEqual(caught.exception.most, many - 1)
                if vault is not UNSURE:
                    what(vault, most=many)

    def test_the_bound_that_is_left_out(self):
        # Each call lays down where it was called last; no answer tells anything.
        for sizes, right in (((8, 5, 5, 5, 2), True), ((8, 7, 6, 6), False)):
            vault = Vault([(size, 0) for size in sizes], [(name, size, (("set", at, "x"),)) for at, (name, size) in enumerate(zip("abcdef", sizes))])
            for what, told in ((forever, False), (returns, True), (lambda vault, **named: forever_paper(vault, **named)[0], "looks")):
                if right:
                    self.assertEqual(what(vault), told)
                else:
                    with self.assertRaises(TooMany) as caught:
                        what(vault)
                    self.assertEqual(caught.exception.most, 2000)
                    self.assertEqual(what(vault, most=2016), told)

    def test_new(self):
        for vault in (V, K, laying_coins(2)):
            tables = forever_paper(vault)[1]
            parts = []
            for shares, book in tables.values():
                parts += [shares, book] + shares + book
            self.assertEqual(len({id(part) for part in parts}), len(parts))
            again = forever_paper(vault)
            self.assertEqual(again, ("tables", tables))
            for part in parts:
                part.clear()
            self.assertEqual(forever_paper(vault), again)


class Fault(unittest.TestCase):

    def tables(self):
        return {(0,): ([{(0,): ONE}, dict(HALF)], [[("lay", 0)]]), (1,): ([{(1,): ONE}], []), (2,): ([{(2,): ONE}], [])}

    def test_form(self):
        for vault in (V, K, UNSURE):
            for value in ODD + [("tables", {}), ["tables", self.tables()], ("tables",), ("tables", [])]:
                self.assertEqual(forever_fault(vault, value), ("form",))
        good = self.tables()
        self.assertIs(forever_fault(K, ("tables", good)), None)
        for thing in [["tables", good], ("tables", good, []), ("table", good), ("Tables", good), ("tables", list(good.items())), ("looks", good)]:
            self.assertEqual(forever_fault(K, thing), ("form",))
        for key in [(3,), (-1,), (0, 0), 0, "a", None, (), True, ((0,),)]:
            self.assertEqual(forever_fault(K, ("tables", {**good, key: ([{(2,): ONE}], [])})), ("form",))
        flag = self.tables()
        del flag[(1,)]
        self.assertEqual(forever_fault(K, ("tables", {**flag, (True,): good[(1,)]})), ("form",))
        for value in ODD + [list(good[(0,)]), good[(0,)][:1], good[(0,)] + ([],), ([], ()), ((), []), ([{}], []), ([{(0,): (2, 2)}], []),
                            ([{(3,): ONE}], []), ([{(True,): ONE}], []), ([{(1,): (1, 2)}], []), ([], [[("lay", 1)]]), ([], [("lay", 0)]),
                            ([], [[None]]), ([None], []), ({}, []), ([], {}), None]:
            if value != ([], []):
                self.assertEqual(forever_fault(K, ("tables", {**good, (2,): value})), ("form",), value)
                self.assertEqual(forever_fault(K, ("tables", {(2,): value})), ("form",))
        for value in ODD:
            if value not in ([], [[]]):
                self.assertEqual(forever_fault(K, ("tables", {(0,): (value, [])})), ("form",))
                self.assertEqual(forever_fault(K, ("tables", {(0,): ([], value)})), ("form",))
            self.assertEqual(forever_fault(K, ("tables", {(0,): ([value], [])})), ("form",))

    def test_form_of_looks(self):
        good = forever_paper(ANEW)
        self.assertIs(forever_fault(ANEW, good), None)
        for thing in [list(good), good[:5], good + ([],), ("look",) + good[1:], ("pasts",) + good[1:]]:
            self.assertEqual(forever_fault(ANEW, thing), ("form",))
        for at in (1, 3, 4, 5):
            for value in ODD + [(("lay", 0),), [("lay", 1)], [("lay", False)], [None], [((0,), (3,))], [[(0,), (1,)]], [((0,), (True,))]]:
                if value != []:
                    self.assertEqual(forever_fault(ANEW, good[:at] + (value,) + good[at + 1:]), ("form",), (at, value))
        for value in odd_but((0,)) + [(3,), (True,), [1], 1, (1, 1), None]:
            self.assertEqual(forever_fault(ANEW, good[:2] + (value,) + good[3:]), ("form",))

    def test_first(self):
        for keys in ([(1,)], [(2,), (1,)]):
            self.assertEqual(forever_fault(K, ("tables", {key: self.tables()[key] for key in keys})), ("first",))
        self.assertEqual(forever_fault(K, ("tables", {(1,): ([], [])})), ("first",))

    def test_table_and_lack(self):
        for order in (sorted, lambda keys: sorted(keys, reverse=True)):
            def fault(tables):
                return forever_fault(K, ("tables", {key: tables[key] for key in order(tables)}))
            self.assertIs(fault(self.tables()), None)
            for key in ((1,), (2,)):
                less = self.tables()
                del less[key]
                self.assertEqual(fault(less), ("lack", (0,)))
            wrong = self.tables()
            wrong[(0,)] = (wrong[(0,)][0], [])
            self.assertEqual(fault(wrong), ("table", (0,), ("alike", 0, 1)))
            # The fault of a table comes ahead of what it lacks.
            del wrong[(1,)]
            self.assertEqual(fault(wrong), ("table", (0,), ("alike", 0, 1)))
            wrong = self.tables()
            wrong[(1,)], wrong[(2,)] = ([], []), ([], [])
            self.assertEqual(fault(wrong), ("table", (1,), ("first",)))
            del wrong[(2,)]
            self.assertEqual(fault(wrong), ("lack", (0,)))
            wrong = self.tables()
            wrong[(2,)] = wrong[(1,)]
            self.assertEqual(fault(wrong), ("table", (2,), ("first",)))
            wrong[(1,)] = ([{(1,): ONE}, {(0,): ONE}], [])
            self.assertEqual(fault(wrong), ("table", (1,), ("behind", 1, ("lay", 0))))
            # Shares that no past has may be there, too; their states are to be keys all the same.
            more = self.tables()
            more[(2,)] = ([{(2,): ONE}, {(1,): (1, 3), (2,): (2, 3)}], [])
            self.assertEqual(fault(more), ("table", (2,), ("alike", 0, 1)))
        wide = Vault([(3, 0)], [("see", 1, (("read", "a", 0), ("answer", "a")))])
        tables = {(0,): ([{(0,): ONE}, {(1,): ONE}], [[("see", 0)]]), (1,): ([{(1,): ONE}, {(2,): ONE}], [[("see", 0)]])}
        self.assertEqual(forever_fault(wide, ("tables", tables)), ("lack", (1,)))
        tables[(2,)] = ([{(2,): ONE}], [])
        self.assertIs(forever_fault(wide, ("tables", tables)), None)
        self.assertEqual(forever_fault(UNSURE, ("tables", {(0,): ([{(0,): ONE}, {(0,): (1, 2), (1,): (1, 2)}], [])})),
                         ("table", (0,), ("answer", 1, ("get", 0))))

    def test_looks(self):
        lay = [("lay", 0)]
        kind, past, state, one, other, pairs = forever_paper(ANEW)
        for pasts, at, right in [(lay, (0,), False), (lay, (1,), True), (lay * 3, (2,), True), ([], (0,), None), ([], (1,), False)]:
            fault = forever_fault(ANEW, ("looks", pasts, at, [], lay, [((1,), (2,))]))
            if right:
                self.assertIs(fault, None)
            else:
                self.assertEqual(fault, ("past",) if right is False else ("pasts", ("first", (0,), (1,))))
        self.assertEqual(forever_fault(ANEW, ("looks", lay, (1,), lay, lay * 2, [])), ("pasts", ("same",)))
        self.assertEqual(forever_fault(ANEW, ("looks", lay, (1,), [], lay, [])), ("pasts", ("first", (1,), (2,))))
        self.assertEqual(forever_fault(ANEW, ("looks", lay, (1,), [], lay, [((1,), (2,)), ((0,), (1,))])), ("pasts", ("answer", 1, ("lay", 0))))
        self.assertEqual(forever_fault(BACK, ("looks", lay, (1,), [], lay, [((2,), (1,))])), None)
        self.assertEqual(forever_fault(LOOSE, ("looks", [], (0, 0), [], [("toss", 0)], [((0, 0), (0, 1))])), ("pasts", ("pair", 0, ("put", 1))))


class Returns(unittest.TestCase):

    def test_ordinary(self):
        for vault, told in [(V, True), (W, True), (K, False), (LOOSE, True), (ANEW, False), (BACK, True), (LATE, False), (IDLE, True),
                            (ONCE, False), (counter(2, 4), True), (laying_coins(2), False), (Vault([(1, 0)], [("a", 1, ())]), True)]:
            self.assertIs(returns(vault), told)
        # It comes back to a state that is like the first one, but never to the first one itself.
        turn = Vault([(3, 2)], [("on", 1, (("read", "a", 0), ("set", 0, ("-", 1, ("=", "a", 1))), ("answer", ("=", "a", 1))))])
        self.assertEqual(states(turn), [(2,), (1,), (0,)])
        self.assertIs(returns(turn), True)

    def test_like_the_slow_one(self):
        found = set()
        for seed in range(300):
            vault = Maker(seed).vault(seed % 2 == 1)
            if is_sure(vault) and len(states(vault)) < 20:
                told = slow_wishes.does_return(vault)
                self.assertIs(returns(vault), told)
                found.add((told, vault.has_coins()))
        self.assertEqual(len(found), 4)


class Facts(unittest.TestCase):

    def vaults(self):
        made = [Maker(seed).vault(seed % 3 > 0) for seed in range(400)]
        return [vault for vault in [V, W, K, LOOSE, ANEW, BACK, LATE, IDLE, ONCE, laying_coins(3)] + made
                if is_sure(vault) and len(states(vault)) < 20]

    def test_without_coins(self):
        for vault in self.vaults():
            if not vault.has_coins():
                self.assertEqual(forever(vault), pastless(vault))

    def test_one_that_returns(self):
        found = set()
        for vault in self.vaults():
            if returns(vault):
                single = pastless(vault) and all(len(one) == 1 for one in past_paper(vault)[1])
                self.assertEqual(forever(vault), single)
                found.add((single, pastless(vault), vault.has_coins()))
        self.assertTrue(found >= {(True, True, True), (False, True, True), (False, False, True), (True, True, False)})

    def test_one_that_does_not(self):
        self.assertEqual([(forever(vault), returns(vault)) for vault in (K, laying_coins(3))], [(True, False)] * 2)
        self.assertEqual(max(map(len, past_paper(laying_coins(3))[1])), 8)


if __name__ == "__main__":
    unittest.main()
