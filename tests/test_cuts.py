"""[23] and [24]: losses of power."""

import unittest

import slow_pasts
from pastless.cuts import cut_fault, cut_led, cut_paper, cut_states
from pastless.errors import HasCoins, NoMost, NoRow, TooMany
from pastless.holds import states
from pastless.likes import likeness_fault
from pastless.looks import pastless
from pastless.moments import moment_paper
from pastless.runs import led, steps
from pastless.vaults import Vault
from odd import ODD, odd_but
from slow import K, LOOSE, UNSURE, V, W, Maker, counter, damaged

PUT, ONE, GET = ("put", 0), ("put", 1), ("get", 0)
# A deed that is called "cut", with as many choices as it has steps.
CUT = Vault([(4, 0), (2, 0)], [("cut", 3, (("read", "a", 0), ("set", 0, ("+", "a", 1)), ("set", 1, "x"))), ("none", 1, ())])
# Both cells are always the same behind a call, but not within one; nothing tells the second one.
TWIN = Vault([(2, 0), (2, 0)], [("put", 2, (("set", 0, "x"), ("set", 1, "x"))), ("get", 1, (("read", "a", 0), ("answer", "a")))])
# The same, but each call first mends what was cut short: so a cut state is told by what it answers.
SEEN = Vault([(2, 0), (2, 0)], [("put", 2, (("set", 0, "x"), ("set", 1, "x"))), ("get", 1, (("read", "a", 0), ("answer", "a"))),
                                ("see", 1, (("read", "a", 1), ("answer", "a")))])


class CutLed(unittest.TestCase):

    def test_steps(self):
        self.assertEqual(len(steps(W, (0, 0), ONE, [])), 3)
        for many, state in enumerate([(0, 0), (0, 0), (0, 0), (1, 0)]):
            self.assertEqual(cut_led(W, [("cut", ONE, many)]), state)
        for many, state in enumerate([(1, 0), (1, 0), (1, 1), (0, 1)]):
            self.assertEqual(cut_led(W, [ONE, ("cut", PUT, many)]), state)
            self.assertEqual(cut_led(W, [ONE, ("cut", PUT, many), ("cut", ONE, 0), GET]), state)
        self.assertEqual(cut_led(W, []), (0, 0))
        self.assertEqual(cut_led(V, [("cut", ("put", 2), 1), ("cut", ("put", 1), 0)]), (2,))
        self.assertEqual(cut_led(CUT, [("cut", ("none", 0), 0)]), (0, 0))

    def test_a_deed_called_cut(self):
        self.assertEqual(cut_led(CUT, [("cut", 1), ("cut", 2)]), (2, 0))
        self.assertEqual(cut_led(CUT, [("cut", ("cut", 1), 2), ("cut", 1), ("cut", ("cut", 0), 2)]), (3, 1))
        for value in (("cut", 3), ("cut", 1, 1), ("cut", "cut", 1), ("cut", ("cut", 3), 1), ("cut", ("cut", 1, 1), 1), ("cut", 1, ("cut", 1))):
            self.wrong(CUT, [("cut", 0), value, value], 1)

    def wrong(self, vault, row, index):
        with self.assertRaises(NoRow) as caught:
            cut_led(vault, row)
        self.assertEqual(caught.exception.index, index)

    def test_like_led(self):
        for seed in range(60):
            maker = Maker(seed)
            vault = maker.vault()
            row = [maker.dice.choice(vault.calls()) for _ in range(6)]
            self.assertEqual(cut_led(vault, row), led(vault, row))
            items = []
            for call in row:
                many = len(slow_pasts.stops(vault, slow_pasts.cut_end(vault, items)[0], call))
                items.append(maker.dice.choice([call, ("cut", call, maker.dice.randrange(many + 1))]))
                self.assertEqual((cut_led(vault, items), None), slow_pasts.cut_end(vault, items))
                self.wrong(vault, items[:-1] + [("cut", call, many + 1)], len(items) - 1)

    def test_errors(self):
        for vault in (K, LOOSE, UNSURE):
            for value in ODD:
                with self.assertRaises(HasCoins):
                    cut_led(vault, value)
        for value in ODD + [(PUT,), PUT, {PUT: 0}, ("cut", PUT, 0)]:
            if not isinstance(value, list):
                self.wrong(W, value, -1)
        for value in odd_but(PUT) + [("put", 2), ("get", False), ["put", 0], [PUT]]:
            self.wrong(W, [PUT, value, value], 1)
            self.wrong(W, [PUT, GET, ("cut", value, 0)], 2)
        for many in odd_but(0, 1) + [4, -1, 10 ** 30, "1", (1,)]:
            self.wrong(W, [("cut", ONE, 3), ("cut", ONE, many)], 1)
        for value in (["cut", ONE, 1], ("cut", ONE), ("cut", ONE, 1, 1), ("Cut", ONE, 1), ("put", ONE, 1), ("cut", 1, ONE), ("cut",)):
            self.wrong(W, [value], 0)
        self.wrong(W, [("cut", GET, 2)], 0)
        self.wrong(CUT, [("cut", ("none", 0), 1)], 0)
        # The number of the steps is that which the call has there.
        self.assertEqual(cut_led(K_PLAIN, [("cut", ("lay", 0), 2)]), (1,))
        self.wrong(K_PLAIN, [("lay", 0), ("cut", ("lay", 0), 2)], 1)


K_PLAIN = Vault([(3, 0)], [("lay", 1, (("read", "a", 0), ("if", "a", (("answer", 0),), ()), ("set", 0, 1), ("answer", 1)))])


class CutStates(unittest.TestCase):

    def test_order(self):
        self.assertEqual(cut_states(W), [(0, 0), (1, 0), (1, 1), (0, 1)])
        self.assertEqual(cut_states(V), [(0,), (1,), (2,)])
        self.assertEqual(cut_states(TWIN), [(0, 0), (1, 0), (1, 1), (0, 1)])
        self.assertEqual(states(TWIN), [(0, 0), (1, 1)])
        many = [(0, 0), (1, 0), (1, 1), (2, 0), (2, 1), (3, 0), (3, 1), (0, 1)]
        self.assertEqual(cut_states(CUT), many)
        for seed in range(100):
            vault = Maker(seed).vault()
            self.assertEqual(cut_states(vault), slow_pasts.cut_states(vault))

    def test_errors(self):
        for what in (cut_states, cut_paper):
            for vault in (K, LOOSE, UNSURE):
                with self.assertRaises(HasCoins):
                    what(vault, most=0)
            for value in odd_but(1, 7) + [100001]:
                with self.assertRaises(NoMost):
                    what(V, most=value)
            for vault in (V, W, TWIN, CUT, counter(2, 4)):
                many = len(cut_states(vault))
                what(vault, most=many)
                with self.assertRaises(TooMany) as caught:
                    what(vault, most=many - 1)
                self.assertEqual(caught.exception.most, many - 1)
            # Two states can come, but four can be behind cut pasts.
            with self.assertRaises(TooMany):
                what(TWIN, most=2)

    def test_the_bound_that_is_left_out(self):
        for sizes, right in (((5, 5, 5, 8, 2), True), ((3, 3, 3, 3, 5, 5), False)):
            vault = Vault([(size, 0) for size in sizes], [(name, size, (("set", at, "x"), ("read", "a", at), ("answer", "a")))
                                                          for at, (name, size) in enumerate(zip("abcdef", sizes))])
            for what in (cut_states, cut_paper):
                if right:
                    what(vault)
                else:
                    with self.assertRaises(TooMany) as caught:
                        what(vault)
                    self.assertEqual(caught.exception.most, 2000)
                    what(vault, most=2025)


class Paper(unittest.TestCase):

    def test_tables_and_pasts(self):
        for vault, kind in ((V, "table"), (W, "pasts"), (TWIN, "pasts"), (SEEN, "table"), (CUT, "pasts"), (counter(3, 3), "table"),
                            (Vault([(1, 0)], [("none", 1, ())]), "table")):
            paper = cut_paper(vault)
            self.assertEqual(paper[0], kind)
            self.assertIs(cut_fault(vault, paper), None)
        # Without cuts no two states of TWIN are like.
        self.assertIs(pastless(TWIN), True)
        self.assertIs(pastless(W), False)

    def test_like_the_slow_ones(self):
        kinds, faults = set(), set()
        for seed in range(250):
            maker = Maker(seed)
            vault = maker.vault()
            if len(slow_pasts.cut_states(vault)) > 14:
                continue
            paper = cut_paper(vault)
            kinds.add((paper[0], pastless(vault)))
            self.assertEqual(paper[0] == "table", slow_pasts.has_cut_table(vault))
            self.assertIs(slow_pasts.cut_fault(vault, paper), None)
            self.assertIs(cut_fault(vault, paper), None)
            for _ in range(4):
                wrong = damaged(maker.dice, paper)
                fault = cut_fault(vault, wrong)
                self.assertEqual(fault, slow_pasts.cut_fault(vault, wrong))
                faults.add((paper[0], fault and fault[0]))
        self.assertEqual(kinds, {("table", True), ("pasts", True), ("pasts", False)})
        self.assertTrue(faults >= {("table", "first"), ("table", "behind"), ("table", "alike"), ("table", None), ("pasts", "same"),
                                   ("pasts", "pair"), ("pasts", None)}, faults)

    def test_facts(self):
        for vault in [V, W, TWIN, SEEN, CUT] + [Maker(seed).vault() for seed in range(150)]:
            if moment_paper(vault)[0] == "table":
                self.assertEqual(sorted(cut_states(vault)), sorted(states(vault)))
                self.assertEqual(cut_paper(vault)[0], "table")
            if cut_paper(vault)[0] == "table":
                self.assertIs(pastless(vault), True)


class Fault(unittest.TestCase):

    def test_errors(self):
        for value in ODD + [cut_paper(V)]:
            for vault in (K, LOOSE, UNSURE):
                with self.assertRaises(HasCoins):
                    cut_fault(vault, value)

    def test_form(self):
        for thing in ODD:
            self.assertEqual(cut_fault(V, thing), ("first",) if thing == ("table", [], []) else
                             ("same",) if thing == ("pasts", [], [], []) else ("form",))
        listed, book = [(0,), (1,), (2,)], [[("get", 0)]]
        self.assertIs(cut_fault(V, ("table", listed, book)), None)
        wrong = [["table", listed, book], ("table", listed), ("table", listed, book, []), ("tables", listed, book), ("pasts", listed, book),
                 ("table", tuple(listed), book), ("table", listed, tuple(book)), ("table", listed, [("get", 0)]),
                 ("table", listed, [[("get", 1)]]), ("table", listed, [[("get", False)]]), ("table", [{(0,): (1, 1)}], book)]
        wrong += [("table", listed + [one], book) for one in odd_but((0,)) + [(3,), (-1,), (True,), [0], 0, (0, 0), {(0,): (1, 1)}]]
        wrong += [("table", listed, [value]) for value in ODD if value not in ([], [("put", 0)])]
        wrong += [["pasts", [], [], []], ("pasts", [], []), ("pasts", [], [], [], []), ("pasts", (), [], []), ("pasts", [], (), []),
                  ("pasts", [], [], ()), ("pasts", [], [], [((0,), (3,))]), ("pasts", [], [], [((0,), (False,))]), ("table", [], [], [])]
        for thing in wrong:
            self.assertEqual(cut_fault(V, thing), ("form",), thing)

    def test_table(self):
        listed, book = [(0, 0), (1, 0), (1, 1), (0, 1)], [[("get", 0)], [("see", 0)]]
        self.assertIs(cut_fault(SEEN, ("table", listed, book)), None)
        self.assertIs(cut_fault(SEEN, ("table", listed + listed, book)), None)
        self.assertEqual(cut_fault(SEEN, ("table", [], [])), ("first",))
        self.assertEqual(cut_fault(SEEN, ("table", listed[1:], book)), ("first",))
        # The states behind the calls are there, but not those within them.
        self.assertEqual(cut_fault(SEEN, ("table", [(0, 0), (1, 1)], book)), ("behind", 0, ("put", 1)))
        self.assertEqual(cut_fault(SEEN, ("table", [(1, 1), (0, 0), (1, 0)], book)), ("behind", 0, ("put", 0)))
        self.assertEqual(cut_fault(SEEN, ("table", [(0, 0), (1, 0), (0, 1)], book)), ("behind", 0, ("put", 1)))
        self.assertEqual(cut_fault(SEEN, ("table", listed, book[:1])), ("alike", 0, 3))
        self.assertEqual(cut_fault(SEEN, ("table", listed, book[1:])), ("alike", 0, 1))
        self.assertEqual(cut_fault(SEEN, ("table", listed, [[], [("get", 0), ("put", 0)]])), ("alike", 0, 1))
        self.assertEqual(cut_fault(SEEN, ("table", [listed[0]] * 2 + listed, book[1:])), ("alike", 0, 3))
        self.assertIs(cut_fault(SEEN, ("table", listed, [[("put", 1), ("put", 0)], [], [("see", 0), ("get", 0)], [("see", 0)]])), None)
        self.assertEqual(cut_fault(TWIN, ("table", listed, [[("get", 0)], [("put", 1), ("get", 0)]])), ("alike", 0, 3))

    def test_pasts(self):
        one, pairs = [("cut", ONE, 1)], [((1, 0), (1, 1))]

        def fault(one, other, pairs):
            return cut_fault(TWIN, ("pasts", one, other, pairs))
        self.assertIs(fault(one, [ONE], pairs), None)
        self.assertIs(fault([("cut", ONE, 2)], one + [("cut", GET, 1)], pairs), None)
        for value in odd_but(PUT) + [("put", 2), ("cut", ONE, 3), ("cut", ONE, True), ("cut", ("put", 2), 0), None]:
            self.assertEqual(fault(one + [value], [ONE], pairs), ("past", 0, 1))
            self.assertEqual(fault(one, [ONE, GET, value, value], pairs), ("past", 1, 2))
            self.assertEqual(fault([ONE, value], [value], []), ("past", 0, 1))
        self.assertEqual(fault([ONE], [("cut", ONE, 2), GET], []), ("same",))
        self.assertEqual(fault(one, [ONE], []), ("first",))
        self.assertEqual(fault(one, [ONE], [((1, 0), (0, 0))]), ("first",))
        self.assertEqual(fault([ONE], [], [((0, 0), (1, 1))]), ("answer", 0, GET))
        self.assertEqual(fault(one, [ONE], [((1, 1), (1, 0)), ((1, 1), (0, 1)), ((0, 0), (0, 1))]), ("answer", 1, GET))
        paper = cut_paper(W)
        self.assertIs(cut_fault(W, paper), None)
        self.assertEqual(cut_fault(W, ("pasts", [("cut", ONE, 3), PUT], [], [((0, 1), (0, 0))])), None)
        keeps = Vault([(2, 0), (2, 0), (2, 0)], [("put", 2, (("read", "a", 1), ("set", 2, "a"), ("read", "a", 0), ("set", 1, "a"), ("set", 0, "x"))),
                                                 W.shape()[1][1]])
        self.assertEqual(cut_fault(keeps, ("pasts", [ONE, ("cut", PUT, 4)], [ONE], [((1, 1, 0), (1, 0, 0))])), ("pair", 0, PUT))
        self.assertEqual(likeness_fault(keeps, (1, 1, 0), (1, 0, 0), [((1, 1, 0), (1, 0, 0))]), ("pair", 0, PUT))


if __name__ == "__main__":
    unittest.main()
