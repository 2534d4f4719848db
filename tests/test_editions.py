"""[37] and [38]: new vaults that take over the cells of old ones."""

import itertools
import unittest

import slow_pasts
from pastless.editions import edition_fault, edition_paper
from pastless.errors import HasCoins, NoMost, OtherSizes, TooMany
from pastless.holds import states
from pastless.looks import pastless
from pastless.runs import led
from pastless.vaults import Vault, begun
from odd import ODD, odd_but
from slow import K, LOOSE, UNSURE, V, W, Maker, counter, damaged, joined_groups, last_answer, pairs_fault
from slow_pasts import after, parts

GET = ("get", 1, (("read", "a", 0), ("answer", "a")))
SEE = ("see", 1, (("read", "a", 1), ("answer", "a")))
# It keeps what was put ahead; the new ones take it over: the first one shows it, the second one never tells it, the third
# one tells it nowhere, but wipes it out before anybody looks. None of them can lay it down itself.
OLD = W
SHOWS = Vault([(2, 0), (2, 0)], [("put", 2, (("set", 0, "x"),)), GET, SEE])
HOLDS = Vault([(2, 0), (2, 0)], [("put", 2, (("set", 0, "x"),)), GET])
WIPES = Vault([(2, 0), (2, 0)], [("put", 2, (("set", 0, "x"), ("set", 1, 0))), GET])


def edition_states(old, new):
    found = [old.first()]
    for vault in (old, new):
        for state in found:
            for call in vault.calls():
                if after(vault, state, call) not in found:
                    found.append(after(vault, state, call))
    return found


def does_hide(old, new):
    return all(parts(new, s, t) for s, t in itertools.combinations(edition_states(old, new), 2))


def slow_fault(old, new, thing):
    """Of what has one of the two forms."""
    if thing[0] == "pasts":
        ends = [slow_pasts.end(begun(new, slow_pasts.end(old, past[0])), past[1]) for past in thing[1:3]]
        if ends[0] == ends[1]:
            return ("same",)
        return ("first",) if not joined_groups(thing[3])(*ends) else pairs_fault(new, thing[3])
    _, olds, listed, book = thing
    if old.first() not in olds:
        return ("first",)
    for index, state in enumerate(olds):
        for call in old.calls():
            if after(old, state, call) not in olds:
                return ("old", index, call)
    for index, state in enumerate(olds):
        if state not in listed:
            return ("over", index)
    for index, state in enumerate(listed):
        for call in new.calls():
            if after(new, state, call) not in listed:
                return ("behind", index, call)
    for i, j in itertools.combinations(range(len(listed)), 2):
        one, other = listed[i], listed[j]
        if one != other and all(last_answer(new, {one: 1}, row) == last_answer(new, {other: 1}, row) for row in book if row):
            return ("alike", i, j)
    return None


def made_pair(seed):
    """Two vaults with cells of the same sizes; the new one often tells all cells."""
    maker = Maker(seed)
    old = maker.vault(most_cells=2)
    while True:
        new = maker.vault(most_cells=2)
        if new.sizes() == old.sizes():
            break
    if maker.dice.random() < 0.5:
        new = Vault(list(new.shape()[0]), list(new.shape()[1])[:2] + [("see" + "abc"[at], 1, (("read", "a", at), ("answer", "a")))
                                                                      for at in range(len(new.sizes()))])
    return maker.dice, old, new


class Paper(unittest.TestCase):

    def test_examples(self):
        for new, kind in ((SHOWS, "table"), (HOLDS, "pasts"), (WIPES, "pasts"), (W, "pasts")):
            paper = edition_paper(OLD, new)
            self.assertEqual(paper[0], kind)
            self.assertIs(edition_fault(OLD, new, paper), None)
        # The new ones alone are pastless: what cannot come from their first state came from the old one.
        for new in (SHOWS, HOLDS, WIPES):
            self.assertIs(pastless(new), True)
        self.assertEqual(states(HOLDS), [(0, 0), (1, 0)])
        self.assertEqual(sorted(edition_paper(OLD, SHOWS)[2]), sorted(states(OLD)))
        # An old vault that leaves no more than one state for each content is hidden by all of these.
        for new in (SHOWS, HOLDS, WIPES):
            self.assertEqual(edition_paper(HOLDS, new)[0], "table")
        self.assertEqual(edition_paper(V, V)[0], "table")

    def test_states_that_come_from_the_old_one_alone(self):
        old = Vault([(4, 2)], [("three", 1, (("set", 0, 3),))])
        new = Vault([(4, 0)], [("none", 1, ()), ("low", 1, (("read", "a", 0), ("answer", ("<", "a", 3))))])
        paper = edition_paper(old, new)
        self.assertEqual((paper[0], sorted(paper[1]), sorted(paper[2])), ("table", [(2,), (3,)], [(2,), (3,)]))
        new = Vault([(4, 0)], [("none", 1, ())])
        kind, one, other, pairs = edition_paper(old, new)
        self.assertEqual((kind, {led(old, one[0]), led(old, other[0])}), ("pasts", {(2,), (3,)}))
        self.assertIs(edition_fault(old, new, (kind, one, other, pairs)), None)
        # It goes on from the old one's states, not from its own first one.
        down = Vault([(4, 0)], [("down", 1, (("read", "a", 0), ("if", "a", (("set", 0, ("-", "a", 1)), ("answer", 1)), ())))])
        self.assertEqual(edition_paper(old, down)[0], "table")
        self.assertEqual(sorted(edition_paper(old, down)[2]), [(0,), (1,), (2,), (3,)])

    def test_a_new_one_that_is_not_pastless(self):
        """From its own first state it would come to states that are like; the old one left none of these."""
        old = Vault([(3, 2)], [("none", 1, ())])
        new = Vault([(3, 0)], [("on", 1, (("read", "a", 0), ("if", ("<", "a", 2), (("set", 0, ("-", 1, "a")), ("answer", 0)), (("answer", 1),))))])
        self.assertIs(pastless(new), False)
        self.assertEqual(edition_paper(old, new)[:3], ("table", [(2,)], [(2,)]))
        self.assertEqual(edition_paper(begun(old, (1,)), new)[0], "pasts")

    def test_long_pasts(self):
        """Only behind three calls of the one and two or three of the other is there a state that is like another one."""
        old = Vault([(4, 0), (4, 0)], [("on", 1, (("read", "a", 0), ("if", ("<", "a", 3), (("set", 0, ("+", "a", 1)),), ())))])
        new = Vault([(4, 0), (4, 0)], [("up", 1, (("read", "a", 0), ("read", "b", 1), ("if", ("*", ("=", "a", 3), ("<", "b", 3)), (("set", 1, ("+", "b", 1)),), ()))),
                                       ("see", 1, (("read", "a", 0), ("read", "b", 1), ("answer", ("+", "a", ("*", 4, ("<", 1, "b"))))))])
        kind, one, other, pairs = edition_paper(old, new)
        ups = sorted([one, other])
        self.assertEqual((kind, ups), ("pasts", [([("on", 0)] * 3, [("up", 0)] * 2), ([("on", 0)] * 3, [("up", 0)] * 3)]))
        self.assertIs(edition_fault(old, new, (kind, one, other, pairs)), None)

    def test_calls_of_their_own(self):
        """The rows of calls are of other deeds."""
        old = Vault([(2, 0), (2, 0)], [("mark", 2, (("set", 1, "x"),))])
        new = Vault([(2, 0), (2, 0)], [("flip", 1, (("read", "a", 0), ("set", 0, ("-", 1, "a")), ("answer", "a")))])
        kind, one, other, _ = edition_paper(old, new)
        self.assertEqual(kind, "pasts")
        self.assertEqual(sorted([one, other]), [([], []), ([("mark", 1)], [])])

    def test_like_the_slow_ones(self):
        kinds, faults = set(), set()
        for seed in range(220):
            dice, old, new = made_pair(seed)
            if len(edition_states(old, new)) > 12:
                continue
            paper = edition_paper(old, new)
            kinds.add((paper[0], pastless(new)))
            self.assertEqual(paper[0] == "table", does_hide(old, new))
            if paper[0] == "table":
                self.assertEqual(sorted(paper[2]), sorted(edition_states(old, new)))
            self.assertIs(slow_fault(old, new, paper), None)
            self.assertIs(edition_fault(old, new, paper), None)
            self.assertEqual(paper, edition_paper(old, new))
            for _ in range(5):
                wrong = damaged(dice, paper)
                fault = edition_fault(old, new, wrong)
                if fault != ("form",):
                    self.assertEqual(fault, slow_fault(old, new, wrong))
                faults.add((paper[0], fault and fault[0]))
        self.assertTrue(kinds >= {("table", True), ("pasts", True), ("pasts", False)})
        self.assertTrue(faults >= {("table", kind) for kind in ("first", "old", "over", "behind", "alike", None)}
                        | {("pasts", kind) for kind in ("first", "same", None)}, faults)

    def test_fact(self):
        """If the edition hides, the new vault begun at any state that can come of the old one is pastless."""
        met = 0
        for seed in range(200):
            _, old, new = made_pair(seed)
            if edition_paper(old, new)[0] == "table":
                met += 1
                for state in states(old):
                    self.assertIs(pastless(begun(new, state)), True)
        self.assertGreater(met, 20)

    def test_errors(self):
        for what in (edition_paper, lambda old, new, most=0: edition_fault(old, new, None)):
            for coins in (LOOSE, UNSURE, K):
                for other in (coins, V, W, HOLDS):
                    for old, new in ((coins, other), (other, coins)):
                        with self.assertRaises(HasCoins):
                            what(old, new, most=0)
            for old, new in ((V, W), (W, V), (V, Vault([(2, 0)], [GET])), (Vault([(2, 0), (3, 0)], [GET]), Vault([(3, 0), (2, 0)], [GET]))):
                with self.assertRaises(OtherSizes):
                    what(old, new, most=0)
        for value in odd_but(1, 7) + [100001]:
            with self.assertRaises(NoMost):
                edition_paper(V, V, most=value)
        # The first states need not be the same.
        self.assertEqual(edition_paper(V, begun(V, (2,)))[0], "table")

    def test_too_many(self):
        old = Vault([(3, 0), (4, 0)], [("on", 3, (("set", 0, "x"),))])
        for new, many in ((Vault([(3, 0), (4, 0)], [("none", 1, ())]), 3), (Vault([(3, 0), (4, 0)], [("set", 4, (("set", 1, "x"),))]), 12),
                          (Vault([(3, 2), (4, 3)], [("set", 1, (("set", 1, 1),))]), 6)):
            edition_paper(old, new, most=many)
            with self.assertRaises(TooMany) as caught:
                edition_paper(old, new, most=many - 1)
            self.assertEqual(caught.exception.most, many - 1)
        # The states that can come of the new one alone do not count.
        wide = counter(4, 7)
        still = Vault([(7, 1)] * 4, [("none", 1, ())])
        self.assertEqual(len(edition_paper(still, Vault([(7, 0)] * 4, [("zero", 1, (("set", 0, 0),))]))[2]), 2)
        for one, other in ((wide, still), (still, wide)):
            with self.assertRaises(TooMany) as caught:
                edition_paper(one, other)
            self.assertEqual(caught.exception.most, 2000)
            edition_paper(one, other, most=2401)
            with self.assertRaises(TooMany):
                edition_paper(one, other, most=2400)

    def test_the_bound_that_is_left_out(self):
        for sizes, right in (((5, 5, 5, 8, 2), True), ((3, 3, 3, 3, 5, 5), False)):
            vault = Vault([(size, 0) for size in sizes], [(name, size, (("set", at, "x"), ("read", "a", at), ("answer", "a")))
                                                          for at, (name, size) in enumerate(zip("abcdef", sizes))])
            if right:
                edition_paper(vault, vault)
            else:
                with self.assertRaises(TooMany):
                    edition_paper(vault, vault)
                edition_paper(vault, vault, most=2025)


class Fault(unittest.TestCase):

    def test_form(self):
        for thing in ODD:
            self.assertEqual(edition_fault(V, V, thing), ("form",), thing)
        listed, book, past = [(0,), (1,), (2,)], [[("get", 0)]], ([], [])
        self.assertIs(edition_fault(V, V, ("table", listed, listed, book)), None)
        wrong = [["table", listed, listed, book], ("table", listed, book), ("table", listed, listed, book, []), ("tables", listed, listed, book),
                 ("pasts", listed, listed, book), ("table", tuple(listed), listed, book), ("table", listed, tuple(listed), book),
                 ("table", listed, listed, tuple(book)), ("table", listed, listed, [("get", 0)]), ("table", listed, listed, [[("get", 1)]]),
                 ("table", listed, listed, [[("get", False)]]), ("table", [{(0,): (1, 1)}], listed, book), ("table", listed, [], [None])]
        for one in odd_but((0,)) + [(3,), (-1,), (True,), [0], 0, (0, 0)]:
            wrong += [("table", listed + [one], listed, book), ("table", listed, listed + [one], book)]
        wrong += [("table", listed, listed, [value]) for value in ODD if value not in ([], [("put", 0)])]
        wrong += [["pasts", past, past, []], ("pasts", past, past), ("pasts", past, past, [], []), ("pasts", [], past, []), ("pasts", past, [], []),
                  ("pasts", ([],), past, []), ("pasts", past, ([], [], []), []), ("pasts", [[], []], past, []), ("pasts", past, ((), []), []),
                  ("pasts", past, ([], ()), []), ("pasts", past, ([], [("get", 1)]), []), ("pasts", ([("put", True)], []), past, []),
                  ("pasts", past, past, ()), ("pasts", past, past, [((0,), (3,))]), ("pasts", past, past, [((0,), (False,))])]
        wrong += [("pasts", value, past, []) for value in ODD] + [("pasts", past, value, []) for value in ODD]
        wrong += [("pasts", past, ([value], []), []) for value in odd_but(("put", 0))] + [("pasts", past, past, [value]) for value in ODD]
        for thing in wrong:
            self.assertEqual(edition_fault(V, V, thing), ("form",), thing)
        # The one row is of calls of the old vault, the other one of calls of the new one; the book is of the new one.
        mark = Vault([(3, 0)], [("mark", 1, (("set", 0, 2),))])
        self.assertEqual(edition_fault(mark, V, ("pasts", ([("mark", 0)], [("put", 1)]), past, [])), ("first",))
        for one in (([("put", 1)], []), ([], [("mark", 0)])):
            self.assertEqual(edition_fault(mark, V, ("pasts", one, past, [])), ("form",))
            self.assertEqual(edition_fault(mark, V, ("pasts", past, one, [])), ("form",))
        self.assertEqual(edition_fault(mark, V, ("table", [], [], [[("mark", 0)]])), ("form",))
        self.assertEqual(edition_fault(V, mark, ("table", [], [], [[("mark", 0)]])), ("first",))

    def test_table(self):
        olds, listed, book = states(OLD), states(OLD), [[("get", 0)], [("see", 0)]]

        def fault(*parts):
            return edition_fault(OLD, SHOWS, ("table",) + parts)
        self.assertIs(fault(olds, listed, book), None)
        self.assertIs(fault(olds[::-1] + olds, listed + listed, book[::-1] + [[]]), None)
        self.assertEqual(fault([], [], []), ("first",))
        self.assertEqual(fault(olds[1:], [], []), ("first",))
        self.assertEqual(fault(olds[:1], [], []), ("old", 0, ("put", 1)))
        self.assertEqual(fault([(0, 1), (1, 0), (0, 0)], [], []), ("old", 1, ("put", 1)))
        self.assertEqual(fault(olds, [], []), ("over", 0))
        self.assertEqual(fault(olds, listed[:2] + listed[3:], []), ("over", 2))
        self.assertEqual(edition_fault(HOLDS, W, ("table", [(0, 0), (1, 0)], [(1, 0), (0, 0)], [])), ("behind", 0, ("put", 0)))
        self.assertEqual(edition_fault(HOLDS, W, ("table", [(0, 0), (1, 0)], [(0, 0), (0, 1), (1, 0)], [])), ("behind", 2, ("put", 1)))
        self.assertEqual(fault(olds, listed, book[:1]), ("alike", 0, 2))
        self.assertEqual(fault(olds, listed, book[1:]), ("alike", 0, 1))
        self.assertEqual(fault(olds, listed, [[], [("get", 0), ("put", 0)]]), ("alike", 0, 1))
        self.assertEqual(fault(olds, [listed[0]] * 2 + listed, book[1:]), ("alike", 0, 3))
        self.assertEqual(edition_fault(OLD, HOLDS, ("table", olds, listed, book[:1])), ("alike", 0, 2))
        # The second list may have more.
        self.assertIs(edition_fault(HOLDS, SHOWS, ("table", states(HOLDS), listed, book)), None)
        self.assertIs(edition_fault(HOLDS, SHOWS, ("table", olds, listed, book)), None)

    def test_pasts(self):
        one, other, pairs = ([("put", 1), ("put", 0)], []), ([], []), [((0, 1), (0, 0)), ((1, 1), (1, 0))]

        def fault(*parts, new=HOLDS):
            return edition_fault(OLD, new, ("pasts",) + parts)
        self.assertIs(fault(one, other, pairs), None)
        self.assertIs(fault(([("put", 1), ("put", 1)], [("put", 0), ("get", 0)]), other, pairs), None)
        self.assertEqual(fault(one, one, []), ("same",))
        self.assertEqual(fault(([], [("put", 1)]), ([("put", 1)], []), pairs), ("same",))
        self.assertEqual(fault(one, other, []), ("first",))
        self.assertEqual(fault(one, other, pairs[1:]), ("first",))
        self.assertEqual(fault(one, other, pairs[:1]), ("pair", 0, ("put", 1)))
        self.assertEqual(fault(one, ([("put", 1)], []), [((0, 1), (1, 0)), ((0, 0), (0, 1))]), ("pair", 0, ("put", 1)))
        self.assertEqual(fault(one, other, pairs, new=SHOWS), ("answer", 0, ("see", 0)))
        self.assertEqual(fault(one, other, pairs[::-1] + [((1, 1), (0, 0))]), ("answer", 2, ("get", 0)))
        # Behind the wiping both are the same.
        self.assertIs(fault(one, other, pairs[:1], new=WIPES), None)
        # It need not be states that can come.
        self.assertEqual(fault(one, other, pairs, new=begun(HOLDS, (1, 1))), None)


class Values(unittest.TestCase):

    def test_what_is_returned_is_new(self):
        for new in (SHOWS, HOLDS):
            first, second = edition_paper(OLD, new), edition_paper(OLD, new)
            for part in first[1:]:
                for inner in list(part):
                    if isinstance(inner, list):
                        inner.clear()
                if isinstance(part, list):
                    part.clear()
            self.assertEqual(edition_paper(OLD, new), second)
        olds, listed, book = edition_paper(V, V)[1:]
        self.assertIsNot(olds, listed)
        self.assertEqual(len(book), len({id(row) for row in book}))
        self.assertEqual(edition_paper(V, V), edition_paper(Vault(*map(list, V.shape())), Vault(*map(list, V.shape()))))


if __name__ == "__main__":
    unittest.main()
