"""[22]: looks in the middle of a call."""

import unittest

import slow_pasts
from pastless.errors import HasCoins, NoMost, TooMany
from pastless.holds import states
from pastless.looks import past_fault, past_paper, pastless
from pastless.moments import moment_fault, moment_paper
from pastless.runs import led, steps
from pastless.vaults import Vault
from odd import ODD, odd_but
from slow import K, LOOSE, UNSURE, V, W, Maker, counter, damaged

ONE = (1, 1)
GET = ("get", 1, (("read", "a", 0), ("answer", "a")))


def cell(size, *rows):
    """A vault of one cell with the call "do" and one that tells the cell."""
    return Vault([(size, 0)], [("do", 1, rows), GET])


# It writes the cell twice: 2 is neither what was there nor what is there behind it.
TWICE = cell(3, ("read", "a", 0), ("set", 0, 2), ("set", 0, ("=", "a", 0)))
# It writes back what was there, and then on.
BACK = cell(3, ("read", "a", 0), ("set", 0, "a"), ("swap", "b", 0, 9, 2), ("set", 0, ("=", "a", 0)), ("read", "c", 0))
# It goes there, back and there again.
FORTH = cell(2, ("read", "a", 0), ("set", 0, ("-", 1, "a")), ("set", 0, "a"), ("set", 0, ("-", 1, "a")))
# Two cells are to change: one of them changes first.
BOTH = Vault([(2, 0), (2, 0)], [("both", 1, (("read", "a", 0), ("set", 0, ("-", 1, "a")), ("set", 1, ("-", 1, "a")), ("answer", "a")))])
# Only in the fourth state that can come is there something amid.
LATE = Vault([(5, 0)], [("on", 1, (("read", "a", 0), ("if", ("=", "a", 3), (("set", 0, 4), ("set", 0, 0), ("answer", 1)),
                                                      (("set", 0, ("+", "a", 1)),)))), ("none", 1, ())])


class Paper(unittest.TestCase):

    def test_pastless_at_every_moment(self):
        for vault in (V, BACK, FORTH, Vault([(1, 0)], [("none", 1, ())]), cell(4, ("read", "a", 0), ("set", 0, ("+", "a", 1)))):
            paper = moment_paper(vault)
            self.assertEqual(paper, past_paper(vault))
            self.assertEqual(paper[0], "table")
            self.assertIs(moment_fault(vault, paper), None)

    def test_not_pastless(self):
        self.assertEqual(moment_paper(W), past_paper(W))
        self.assertEqual(moment_paper(W)[0], "pasts")
        self.assertIs(moment_fault(W, moment_paper(W)), None)
        # It is not pastless, so that the step in the middle is not told.
        vault = Vault([(3, 0)], [("do", 1, TWICE.rows("do"))])
        self.assertIs(pastless(vault), False)
        self.assertEqual(moment_paper(vault), past_paper(vault))

    def test_amid(self):
        self.assertEqual(moment_paper(TWICE), ("amid", [], ("do", 0), 1))
        self.assertEqual(moment_paper(BOTH), ("amid", [], ("both", 0), 1))
        kind, past, call, step = moment_paper(LATE)
        self.assertEqual((kind, past, call), ("amid", [("on", 0)] * 3, ("on", 0)))
        self.assertEqual(steps(LATE, led(LATE, past), call, [])[step], ("set", 0, 4, (4,)))
        self.assertIs(moment_fault(LATE, (kind, past, call, step)), None)
        kind, past, call, step = moment_paper(counter(3, 3))
        self.assertEqual((kind, past), ("amid", [("inc", 0)] * 2))

    def test_like_the_slow_ones(self):
        kinds = set()
        for seed in range(300):
            vault = Maker(seed).vault()
            if len(states(vault)) > 30:
                continue
            paper = moment_paper(vault)
            length = slow_pasts.amid_length(vault)
            if not pastless(vault):
                self.assertEqual(paper, past_paper(vault))
            elif length is None:
                self.assertEqual(paper, past_paper(vault))
            else:
                self.assertEqual((paper[0], len(paper[1])), ("amid", length))
                stops = slow_pasts.stops(vault, slow_pasts.end(vault, paper[1]), paper[2])
                state = slow_pasts.end(vault, paper[1])
                self.assertNotIn(stops[paper[3]], (state, slow_pasts.after(vault, state, paper[2])))
            self.assertIs(moment_fault(vault, paper), None)
            kinds.add((paper[0], min(len(paper[1]), 2)))
        self.assertTrue(kinds >= {("table", 1), ("table", 2), ("pasts", 0), ("amid", 0), ("amid", 1)}, kinds)

    def test_errors(self):
        for vault in (K, LOOSE, UNSURE):
            with self.assertRaises(HasCoins):
                moment_paper(vault, most=0)
            for value in ODD:
                with self.assertRaises(HasCoins):
                    moment_fault(vault, value)
        for value in odd_but(1, 7) + [100001]:
            with self.assertRaises(NoMost):
                moment_paper(V, most=value)
        for vault in (V, W, TWICE):
            many = len(states(vault))
            moment_paper(vault, most=many)
            with self.assertRaises(TooMany) as caught:
                moment_paper(vault, most=many - 1)
            self.assertEqual(caught.exception.most, many - 1)


class Fault(unittest.TestCase):

    def test_forms_of_one_look(self):
        """What the form of a paper of [16] asks for is asked for here, too."""
        for thing in ODD:
            self.assertEqual(moment_fault(V, thing), ("first",) if thing == ("table", [], []) else
                             ("same",) if thing == ("pasts", [], [], []) else ("form",))
        shares, book, pairs = [{(at,): ONE} for at in range(3)], [[("get", 0)]], [((0,), (0,))]
        wrong = [["table", shares, book], ("table", shares), ("table", shares, book, []), ("table", tuple(shares), book),
                 ("table", shares, tuple(book)), ("table", shares, [("get", 0)]), ("table", shares, [[("get", 1)]]),
                 ["pasts", [], [], pairs], ("pasts", [], []), ("pasts", [], [], pairs, []), ("pasts", (), [], pairs),
                 ("pasts", [], [("put", 3)], pairs), ("pasts", [("put", True)], [], pairs), ("pasts", [], [], [((0,), (3,))]),
                 ("pasts", [], [], [((0,), (False,))]), ("pasts", [], [], tuple(pairs))]
        wrong += [("table", shares + [one], book) for one in
                  ({}, None, {(3,): ONE}, {(True,): ONE}, {(0,): (2, 2)}, {(0,): (1, 2)}, {(0,): (True, 1)}, {(0,): [1, 1]}, {0: ONE})]
        for thing in wrong:
            self.assertEqual(moment_fault(V, thing), ("form",), thing)

    def test_shares_of_several_states(self):
        half = {(0,): (1, 2), (1,): (1, 2)}
        shares, book = [{(at,): ONE} for at in range(3)], [[("get", 0)]]
        self.assertIs(moment_fault(V, ("table", shares, book)), None)
        for more in ([half], [half, half], [{(0,): (1, 3), (1,): (1, 3), (2,): (1, 3)}]):
            self.assertEqual(moment_fault(V, ("table", shares + more, book)), ("form",))
            self.assertEqual(moment_fault(V, ("table", more + shares, book)), ("form",))
            self.assertNotEqual(past_fault(V, ("table", shares + more, book)), ("form",))

    def test_table_and_pasts(self):
        for seed in range(150):
            maker = Maker(seed)
            vault = maker.vault()
            if len(states(vault)) > 12:
                continue
            paper = past_paper(vault)
            for _ in range(3):
                wrong = damaged(maker.dice, paper)
                fault, told = moment_fault(vault, wrong), past_fault(vault, wrong)
                if wrong[0] == "pasts" or told is not None:
                    self.assertEqual(fault, told)
                else:
                    self.assertEqual(fault, self.first_step(vault, [list(share)[0] for share in wrong[1]]))

    def first_step(self, vault, listed):
        for index, state in enumerate(listed):
            found = slow_pasts.first_amid(vault, state)
            if found:
                return ("step", index) + found
        return None

    def test_step(self):
        book = [[("get", 0)]]
        shares = [{(0,): ONE}, {(1,): ONE}]
        self.assertEqual(past_fault(TWICE, ("table", shares, book)), None)
        self.assertEqual(moment_fault(TWICE, ("table", shares, book)), ("step", 0, ("do", 0), 1))
        # Another fault comes ahead.
        self.assertEqual(moment_fault(TWICE, ("table", shares, [])), ("alike", 0, 1))
        self.assertEqual(moment_fault(TWICE, ("table", shares[:1], book)), ("behind", 0, ("do", 0)))
        # From 2 it is just the state ahead.
        with_two = [{(2,): ONE}] + shares
        self.assertEqual(moment_fault(TWICE, ("table", with_two, book)), ("step", 1, ("do", 0), 1))
        late = past_paper(LATE)
        at = [list(share)[0] for share in late[1]].index((3,))
        self.assertEqual(moment_fault(LATE, late)[:3], ("step", at, ("on", 0)))

    def test_amid_form(self):
        good = ("amid", [], ("do", 0), 1)
        self.assertIs(moment_fault(TWICE, good), None)
        for thing in [list(good), good[:3], good + (0,), ("Amid",) + good[1:], ("amid", (), ("do", 0), 1), ("amid", [("do", 1)], ("do", 0), 1),
                      ("amid", [], ("do", 1), 1), ("amid", [], ("do", False), 1), ("amid", [], ["do", 0], 1), ("amid", [], ("do", 0), True),
                      ("amid", [], ("do", 0), -1), ("amid", [], ("do", 0), "1"), ("amid", [], ("do", 0), None), ("amid", [None], ("do", 0), 1)]:
            self.assertEqual(moment_fault(TWICE, thing), ("form",))
        for value in ODD:
            for thing in [("amid", value, ("do", 0), 1), ("amid", [value], ("do", 0), 1), ("amid", [], value, 1), ("amid", [], ("do", 0), value)]:
                if value not in (0, 1, 7, 10 ** 30) and value != []:
                    self.assertEqual(moment_fault(TWICE, thing), ("form",))

    def test_amid(self):
        for step in (0, 2, 3, 4, 10 ** 30):
            self.assertEqual(moment_fault(TWICE, ("amid", [], ("do", 0), step)), ("step",))
        self.assertEqual(moment_fault(TWICE, ("amid", [], ("get", 0), 0)), ("step",))
        self.assertEqual(moment_fault(TWICE, ("amid", [], ("get", 0), 1)), ("step",))
        self.assertIs(moment_fault(TWICE, ("amid", [("do", 0), ("get", 0)] * 3, ("do", 0), 1)), None)
        for step in range(7):
            self.assertEqual(moment_fault(BACK, ("amid", [], ("do", 0), step)), ("step",))
            self.assertEqual(moment_fault(FORTH, ("amid", [], ("do", 0), step)), ("step",))
        self.assertEqual(moment_fault(LATE, ("amid", [], ("none", 0), 0)), ("step",))
        found = [(row, step) for row in range(5) for step in range(5)
                 if moment_fault(LATE, ("amid", [("on", 0)] * row, ("on", 0), step)) is None]
        self.assertEqual(found, [(3, 1)])
        # It need not be of a vault that is pastless.
        self.assertEqual(moment_fault(W, ("amid", [("put", 1), ("put", 1)], ("put", 0), 1)), ("step",))
        self.assertIs(moment_fault(W, ("amid", [("put", 1)], ("put", 0), 1)), None)


if __name__ == "__main__":
    unittest.main()
