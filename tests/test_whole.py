"""What DOC.md says over the whole program: [2] to [6] of the modules that take hands, mend, take over and read texts; and the facts."""

import copy
import random
import unittest

import slow
from pastless import choices, editions, errors, orders, rowtexts, texts
from pastless.coins import forever, forever_fault, forever_paper, returns
from pastless.cuts import cut_fault, cut_paper, cut_states
from pastless.desk import Desk
from pastless.editions import edition_fault, edition_paper
from pastless.errors import NoMost, NotSure, TooMany, TooWide
from pastless.facts import known, known_held, telling_reader, told, told_fault
from pastless.hands import Hands
from pastless.holds import content, contents, most_layouts, parted, states, unsure, unsure_fault
from pastless.houses import House
from pastless.likes import likeness, likeness_fault
from pastless.looks import past_fault, past_paper, pastless
from pastless.moments import moment_fault, moment_paper
from pastless.runs import led, share
from pastless.strikes import never
from pastless.vaults import Vault, begun
from pastless.wishes import unkept, wish_of
from odd import ODD, odd_but
from slow import K, LOOSE, V, W, Maker
from slow_hands import I, racy_vault
from slow_pasts import made_reader
from test_general import ever_one, lists_in, silent, spoil, still

PUT, ONE, GET = ("put", 0), ("put", 1), ("get", 0)
HOLDS = Vault([(2, 0), (2, 0)], [("put", 2, (("set", 0, "x"),)), ("get", 1, (("read", "a", 0), ("answer", "a")))])


def a_house(vault=LOOSE):
    house = House(vault)
    house.tell([1, 0, 1, 1])
    house.call(vault.calls()[0])
    house.look()
    house.cut(vault.calls()[0], 1)
    house.edition(vault)
    return house


def some_hands():
    hands = Hands(W)
    hands.call(0, ONE)
    hands.step(0)
    hands.call(1, GET)
    return hands


def samples():
    """Functions and methods that change nothing, with arguments."""
    weaving = [("call", 0, ("inc", 0)), ("step", 0), ("call", 1, ("inc", 0)), ("step", 1), ("step", 0)]
    hands, house, looked = some_hands(), a_house(), House(W)
    looked.look()
    return [
        (hands.state, [], {}), (hands.busy, [1], {}), (hands.weaving, [], {}), (hands.told, [], {}),
        (orders.order, [I, weaving], {}), (orders.order, [I, weaving], {"cells": True}), (orders.order_fault, [I, weaving, [0]], {"cells": True}),
        (orders.order_fault, [I, weaving, [1, 0]], {}), (orders.kept, [I, "right", weaving], {}), (orders.kept, [I, "moment", weaving], {}),
        (orders.broken, [I, "right"], {}), (orders.broken, [W, "moment"], {"most": 500}), (orders.broken, [V, "rest"], {}),
        (choices.weight, [W, [(0, 0), (1, 1)]], {}), (choices.best_choice, [W], {}), (choices.best_choice, [LOOSE], {}),
        (choices.tidied, [W, [(0, 1), (1, 1)]], {}),
        (editions.edition_paper, [W, HOLDS], {}), (editions.edition_paper, [HOLDS, W], {}), (editions.edition_paper, [HOLDS, HOLDS], {}),
        (editions.edition_fault, [W, HOLDS, edition_paper(W, HOLDS)], {}), (editions.edition_fault, [HOLDS, HOLDS, edition_paper(HOLDS, HOLDS)], {}),
        (house.falls, [], {}), (house.state, [], {}), (house.vault, [], {}), (house.log, [], {}), (house.answers, [], {}),
        (looked.known, [ever_one()], {}), (house.tried, [lambda given: (given.log(), given.falls())], {}),
        (texts.expression_text, [("+", "a", 1)], {}), (texts.read_expression, ["(a+1)"], {}), (texts.vault_text, [W], {}),
        (texts.read_vault, [texts.vault_text(K)], {}), (rowtexts.row_text, [[ONE, GET]], {}), (rowtexts.read_row, ["put 1\nget 0"], {}),
        (rowtexts.weaving_text, [weaving], {}), (rowtexts.read_weaving, ["call 0 put 1\nstep 0"], {}), (rowtexts.state_text, [(1, 0)], {}),
        (rowtexts.read_state, ["1 0"], {}),
    ]


class Values(unittest.TestCase):

    def test_arguments_stay_as_they_are(self):
        """[3]"""
        for what, given, named in samples():
            values = [value for value in given if isinstance(value, (list, tuple, str, Vault))]
            kept, kept_named = copy.deepcopy(values), copy.deepcopy(named)
            what(*given, **named)
            self.assertEqual((values, named), (kept, kept_named), what)

    def test_what_is_returned_is_new(self):
        """[3], [5]"""
        for what, given, named in samples():
            handed = lists_in(given) + lists_in(named)
            first = what(*given, **named)
            again = what(*given, **named)
            self.assertEqual(first, again)
            parts = lists_in(first) + lists_in(again)
            self.assertEqual(len({id(part) for part in parts}), len(parts), what)
            self.assertFalse([part for part in parts for one in handed if part is one], what)
            spoil(first)
            self.assertEqual(what(*given, **named), again, what)

    def test_what_was_handed_in_may_be_changed(self):
        cells, rows = [(2, 0)], [("put", 2, (("set", 0, "x"),))]
        vault = Vault(cells, rows)
        house, hands = House(vault), Hands(vault)
        cells.clear()
        rows.clear()
        self.assertEqual((house.call(ONE), house.state(), hands.call(0, ONE), hands.step(0)), (0, (1,), None, 0))

    def test_deep_values(self):
        """[4]: whatever is handed in where an error is named, it is that error."""
        plain, told = House(W), House(W)
        told.look()
        told.tell([1])
        desk = Desk()
        for value in odd_but(PUT, (0,), [], [0], 0, 1, 7, "a", "", (0, 0), ("none", 0), [PUT]):
            for error, what in [
                    (errors.NoHand, lambda: Hands(W).call(value, value)), (errors.NoCall, lambda: Hands(W).call(0, value)),
                    (errors.NoHand, lambda: Hands(W).step(value)), (errors.NoHand, lambda: Hands(W).busy(value)),
                    (errors.NoWeaving, lambda: orders.order(W, value)), (errors.NoWeaving, lambda: orders.order(W, [value])),
                    (errors.NoWeaving, lambda: orders.order(W, [("call", 0, value)])), (errors.NoWeaving, lambda: orders.order(W, [("call", value, PUT)])),
                    (errors.NoWeaving, lambda: orders.order_fault(W, [("step", value)], value)), (errors.NoRule, lambda: orders.kept(W, value, value)),
                    (errors.NoWeaving, lambda: orders.kept(W, "rest", value)), (errors.NoRule, lambda: orders.broken(W, value, most=value)),
                    (NoMost, lambda: orders.broken(W, "rest", most=value)), (NoMost, lambda: choices.weight(W, value, most=value)),
                    (errors.NoChoice, lambda: choices.weight(W, value)), (errors.NoChoice, lambda: choices.tidied(W, [value, (1, 0)])),
                    (NoMost, lambda: choices.best_choice(W, most=value)), (NoMost, lambda: choices.tidied(W, value, most=value)),
                    (NoMost, lambda: edition_paper(W, HOLDS, most=value)), (errors.NoCoins, lambda: plain.tell(value)), (errors.NoCoins, lambda: plain.tell([value])),
                    (errors.NoCall, lambda: plain.call(value)), (errors.NoCall, lambda: plain.cut(value, value)), (errors.NoCut, lambda: plain.cut(PUT, value)),
                    (errors.NoBack, lambda: plain.back(value)), (NoMost, lambda: told.known(ever_one(), most=value)),
                    (errors.NoExpression, lambda: texts.expression_text(value)), (errors.NoExpression, lambda: texts.expression_text(("+", 1, value))),
                    (errors.NoExpression, lambda: texts.expression_text((value, 1, 1))), (errors.NoExpression, lambda: texts.read_expression(value)),
                    (errors.NoText, lambda: texts.read_vault(value)), (errors.NoRow, lambda: rowtexts.row_text(value)),
                    (errors.NoRow, lambda: rowtexts.row_text([value])), (errors.NoRow, lambda: rowtexts.row_text([("a", value)])),
                    (errors.NoWeaving, lambda: rowtexts.weaving_text(value)), (errors.NoWeaving, lambda: rowtexts.weaving_text([("step", value)])),
                    (errors.NoState, lambda: rowtexts.state_text(value)), (errors.NoState, lambda: rowtexts.state_text((value,))),
                    (errors.NoText, lambda: rowtexts.read_row(value if value != "put" else 0)), (errors.NoText, lambda: rowtexts.read_weaving(value)),
                    (errors.NoText, lambda: rowtexts.read_state(value)), (errors.NoLine, lambda: desk.tell(value))]:
                with self.assertRaises(error):
                    what()
            self.assertEqual((len(plain), plain.falls(), desk.undoable()), (0, [], 0))

    def test_deep_things(self):
        """[4]: a thing may be anything."""
        for value in ODD:
            for thing in [value, [value], (value,), (value, value), ("table", value, value, value), ("table", [value], [], []), ("table", [(0,)], [value], []),
                          ("table", [(0,)], [(0,)], [value]), ("table", [(0,)], [(0,)], [[value]]), ("pasts", value, value, value), ("pasts", ([], []), ([], []), value),
                          ("pasts", ([value], []), ([], [value]), []), ("pasts", (value, value), ([], []), [value]), ("pasts", ([], []), ([], []), [(value, value)])]:
                edition_fault(V, V, thing)
            for thing in [value, [value], [0, value], (value,), [[value]]]:
                for cells in (False, True):
                    orders.order_fault(V, [("call", 0, PUT), ("step", 0)], thing, cells=cells)

    def test_errors(self):
        """[5]: the errors stand directly under PastError."""
        for name, kind in vars(errors).items():
            if isinstance(kind, type) and kind is not errors.PastError:
                self.assertEqual(kind.__bases__, (errors.PastError,))
        self.assertEqual(errors.PastError.__bases__, (ValueError,))


class Most(unittest.TestCase):
    """[6]"""

    def test_of_sure_vaults(self):
        whats = [lambda vault, most: choices.weight(vault, [one[0] for one in contents(vault)], most=most),
                 lambda vault, most: choices.tidied(vault, [one[0] for one in contents(vault)], most=most), lambda vault, most: wish_of(vault, most=most),
                 lambda vault, most: choices.best_choice(vault, most=most)]
        for what in whats:
            for vault in (V, W, K, LOOSE):
                many = len(states(vault))
                what(vault, many)
                for most in range(1, many):
                    with self.assertRaises(TooMany) as caught:
                        what(vault, most)
                    self.assertEqual(caught.exception.most, most)
                for value in odd_but(1, 7) + [100001, -1]:
                    with self.assertRaises(NoMost):
                        what(vault, value)

    def test_order(self):
        """NoMost, TooMany, NotSure, and then TooWide and what a point tells to come last."""
        wide_coins = Vault([(9, 0), (9, 0)], [("flip", 1, (("coin", "a"), ("answer", "a")))] + [(name, 9, (("set", at, "x"), ("read", "b", at), ("answer", "b")))
                                                                                             for at, name in enumerate("ab")])
        wide = Vault([(9, 0), (9, 0)], [(name, 9, (("read", "b", at), ("set", at, "x"), ("answer", "b"))) for at, name in enumerate("ab")])
        for vault, last in ((wide_coins, NotSure), (wide, TooWide)):
            for what in (lambda most: choices.tidied(vault, None, most=most), lambda most: wish_of(vault, most=most)):
                for most, error in ((0, NoMost), (80, TooMany), (81, last), (2000, last)):
                    with self.assertRaises(error):
                        what(most)
        for most, error in ((0, NoMost), (80, TooMany), (81, errors.NoChoice)):
            with self.assertRaises(error):
                choices.weight(wide, None, most=most)
        with self.assertRaises(errors.NoRule):
            orders.broken(V, "none", most=0)
        with self.assertRaises(errors.OtherSizes):
            edition_paper(V, W, most=0)


def ring(many):
    """A vault that counts through so many states and tells nothing of them: they are all like one another."""
    last = [(many - 1) // 9 ** digit % 9 for digit in range(4)]
    rows = (("set", 0, ("+", "a", 1)),)
    for digit in (1, 2, 3):
        more = (("set", digit, ("+", "abcd"[digit], 1)),)
        lower = tuple(("set", cell, 0) for cell in range(digit))
        all_eights = ("=", "a", 8)
        for cell in range(1, digit):
            all_eights = ("*", all_eights, ("=", "abcd"[cell], 8))
        rows = rows + (("if", all_eights, lower + more, ()),)
    at_last = ("*", ("*", ("=", "a", last[0]), ("=", "b", last[1])), ("*", ("=", "c", last[2]), ("=", "d", last[3])))
    look = tuple(("read", reg, cell) for cell, reg in enumerate("abcd"))
    return Vault([(9, 0)] * 4, [("on", 1, look + (("if", at_last, tuple(("set", cell, 0) for cell in range(4)), rows),)), ("none", 1, ())])


class LeftOut(unittest.TestCase):
    """[6]: what is left out is 2000."""

    def whats(self, vault):
        first, on = vault.first(), ("on", 0)
        looked = House(vault)
        looked.look()
        return [lambda: states(vault), lambda: unsure(vault), lambda: contents(vault), lambda: content(vault, first), lambda: parted(vault, first, first),
                lambda: most_layouts(vault), lambda: likeness(vault, first, first), lambda: pastless(vault), lambda: past_paper(vault),
                lambda: known(vault, still(vault), first), lambda: known_held(vault, still(vault), first), lambda: told(vault, still(vault)),
                lambda: telling_reader(vault), lambda: never(vault, [("none", 0)], on), lambda: moment_paper(vault), lambda: wish_of(vault),
                lambda: unkept(vault, silent(vault)), lambda: forever(vault), lambda: forever_paper(vault), lambda: returns(vault),
                lambda: choices.weight(vault, [first]), lambda: choices.best_choice(vault), lambda: choices.tidied(vault, [first]),
                lambda: edition_paper(vault, vault), lambda: looked.known(still(vault))]

    def test_just_enough(self):
        self.assertEqual(len(states(ring(2000))), 2000)
        for what in self.whats(ring(2000)):
            what()

    def test_one_too_many(self):
        for what in self.whats(ring(2001)):
            with self.assertRaises(TooMany) as caught:
                what()
            self.assertEqual(caught.exception.most, 2000)


def some_vaults(many, coins=None):
    """Small vaults, each with dice of its own."""
    for seed in range(many):
        maker = Maker(seed)
        vault = maker.vault(coins=seed % 2 == 0 if coins is None else coins)
        if slow.is_sure(vault) and len(states(vault)) <= 16:
            yield maker.dice, vault


class Facts(unittest.TestCase):

    def test_one_content(self):
        """[15]: all states of the share of one past are like; [16]: a table or pasts that are right show it."""
        met = set()
        for dice, vault in some_vaults(160):
            row = [dice.choice(vault.calls()) for _ in range(dice.randrange(6))]
            kinds = {content(vault, state) for state in share(vault, row)}
            self.assertEqual(len(kinds), 1)
            paper = past_paper(vault)
            self.assertIs(past_fault(vault, paper), None)
            self.assertEqual(pastless(vault), paper[0] == "table")
            if not vault.has_coins():
                self.assertEqual(pastless(vault), max(map(len, contents(vault))) == 1)
            met.add((vault.has_coins(), pastless(vault)))
        self.assertEqual(len(met), 4)

    def test_sure(self):
        """[16]: a vault is sure if there is a table that is right; [12]: or else there is a row that shows it is not."""
        met = set()
        for seed in range(200):
            vault = Maker(seed).vault(coins=True)
            shown = unsure(vault)
            met.add(shown is None)
            if shown is not None:
                self.assertIs(unsure_fault(vault, shown), None)
                table = ("table", [{state: (1, 1)} for state in states(vault)], [[call] for call in vault.calls()])
                self.assertIsNot(past_fault(vault, table), None)
        self.assertEqual(len(met), 2)

    def test_readers(self):
        """[18] to [20]: what is held tells no more than the state; a vault is pastless exactly if no state gives away more."""
        met = set()
        for dice, vault in some_vaults(160, coins=False):
            reader = telling_reader(vault)
            self.assertEqual(reader is None, pastless(vault))
            for one in [made_reader(dice, vault), made_reader(dice, vault)] + [reader] * (reader is not None):
                given = [state for state in states(vault) if known(vault, one, state) != "open" == known_held(vault, one, state)]
                for state in states(vault):
                    held = known_held(vault, one, state)
                    self.assertTrue(held == "open" or held == known(vault, one, state))
                shown = told(vault, one)
                self.assertEqual(shown is None, given == [])
                if shown is not None:
                    self.assertIs(told_fault(vault, one, shown), None)
                    self.assertEqual(led(vault, shown[0]), given[0])
                    self.assertIs(pastless(vault), False)
                met.add((pastless(vault), shown is None))
            if reader is not None:
                self.assertIsNot(told(vault, reader), None)
        self.assertEqual(met, {(True, True), (False, True), (False, False)})

    def test_moments_and_cuts(self):
        """[22], [24]"""
        met = set()
        for _, vault in some_vaults(250, coins=False):
            paper, cut = moment_paper(vault), cut_paper(vault)
            self.assertIs(moment_fault(vault, paper), None)
            self.assertIs(cut_fault(vault, cut), None)
            if paper[0] == "table":
                self.assertEqual((cut[0], sorted(cut_states(vault))), ("table", sorted(states(vault))))
            if cut[0] == "table":
                self.assertIs(pastless(vault), True)
            met.add((paper[0], cut[0]))
        self.assertTrue(met >= {("table", "table"), ("pasts", "pasts"), ("amid", "pasts"), ("amid", "table")}, met)

    def test_coins(self):
        """[30]: where all can be come back to, coins help against one look only."""
        met = set()
        for dice, vault in list(some_vaults(300)) + [(random.Random(0), one) for one in (K, LOOSE, V, W)]:
            paper = forever_paper(vault)
            self.assertIs(forever_fault(vault, paper), None)
            self.assertEqual(forever(vault), paper[0] == "tables")
            self.assertEqual(forever(vault), all(pastless(begun(vault, state)) for state in states(vault)))
            if not vault.has_coins():
                self.assertEqual(forever(vault), pastless(vault))
            elif returns(vault):
                rows = [[]] + [[dice.choice(vault.calls()) for _ in range(dice.randrange(1, 5))] for _ in range(12)]
                single = all(len(share(vault, row)) == 1 for row in rows)
                if forever(vault):
                    self.assertTrue(pastless(vault) and single)
                elif pastless(vault):
                    self.assertTrue(any(len(slow.share(vault, row)) > 1 for row in self.all_rows(vault)))
            met.add((vault.has_coins(), returns(vault), pastless(vault), forever(vault)))
        self.assertTrue(met >= {(True, False, True, True), (True, True, True, True), (True, True, False, False), (False, True, True, True)}, met)

    def all_rows(self, vault):
        rows = [[]]
        for _ in range(4):
            rows += [row + [call] for row in rows[-200:] for call in vault.calls()]
        return rows[:3000]

    def test_hands(self):
        """[34]: rules among themselves; a weaving of one hand alone is a past."""
        met = set()
        for seed in range(150):
            vault = racy_vault(random.Random(seed))
            try:
                held = [orders.broken(vault, rule, most=3000) is None for rule in ("moment", "rest", "right")]
            except TooMany:
                continue
            self.assertEqual(held, sorted(held))
            met.add(tuple(held))
            hands, dice = Hands(vault), random.Random(seed)
            house = House(vault)
            for _ in range(5):
                call = dice.choice(vault.calls())
                answer = hands.call(0, call)
                while answer is None:
                    answer = hands.step(0)
                self.assertEqual((answer, hands.state()), (house.call(call), house.state()))
            self.assertEqual(orders.order(vault, hands.weaving(), cells=True), list(range(5)))
            self.assertIs(orders.kept(vault, "rest", hands.weaving()), True)
        self.assertEqual(len(met), 4)

    def test_mending(self):
        """[35]: it answers as the vault does and is pastless, and at every moment exactly if the greatest w is at most 1."""
        met = set()
        for dice, vault in some_vaults(160):
            choice = [dice.choice(one) for one in contents(vault)]
            mended = choices.tidied(vault, choice)
            self.assertEqual((wish_of(mended), pastless(mended), most_layouts(mended)), (wish_of(vault), True, 1))
            self.assertIs(unkept(mended, wish_of(vault)), None)
            self.assertEqual(moment_paper(mended)[0] == "table", choices.weight(vault, choice)[0] <= 1)
            self.assertLessEqual(choices.weight(vault, choices.best_choice(vault)), choices.weight(vault, choice))
            self.assertIs(forever(mended), True)
            met.add(moment_paper(mended)[0])
        self.assertEqual(met, {"table", "amid"})

    def test_editions(self):
        """[38]: what hides is pastless, begun at whatever the old one left. The old one itself, as its own edition, hides if it is pastless."""
        met = set()
        for _, vault in some_vaults(160, coins=False):
            paper = edition_paper(vault, vault)
            self.assertIs(edition_fault(vault, vault, paper), None)
            self.assertEqual(paper[0] == "table", pastless(vault))
            mended = choices.tidied(vault, choices.best_choice(vault))
            again = edition_paper(vault, mended)
            self.assertIs(edition_fault(vault, mended, again), None)
            if again[0] == "table":
                self.assertTrue(all(pastless(begun(mended, state)) for state in states(vault)))
            met.add((paper[0], again[0]))
        self.assertTrue(met >= {("table", "table"), ("pasts", "pasts")}, met)

    def test_looks(self):
        """[40]: one look is `known` of its state; more looks tell no less."""
        met = set()
        for dice, vault in some_vaults(160, coins=False):
            house, reader = House(vault), made_reader(dice, vault)
            words = []
            for _ in range(3):
                house.call(dice.choice(vault.calls()))
                state = house.look()
                words.append(house.known(reader))
                met.add((words[-1], known(vault, reader, state)))
                if words[-1] != known(vault, reader, state):
                    self.assertEqual(known(vault, reader, state), "open")
            self.assertEqual(words[0], known(vault, reader, led(vault, [house.log()[0][1]])))
            says = reader.reads([item[1] for item in house.log() if item[0] == "call"])
            self.assertIn(words[-1], ("open", "yes" if says else "no"))
        self.assertTrue(met >= {("yes", "yes"), ("no", "no"), ("open", "open")})

    def test_likenesses(self):
        """[14]: two states that can come are like exactly if there is a likeness in which they are joined, of fewer pairs than states."""
        for dice, vault in some_vaults(100):
            one, other = dice.choice(states(vault)), dice.choice(states(vault))
            pairs = likeness(vault, one, other)
            self.assertEqual(pairs is None, content(vault, one) != content(vault, other))
            if pairs is not None:
                self.assertIs(likeness_fault(vault, one, other, pairs), None)
                self.assertLess(len(pairs), len(states(vault)))

    def test_desk(self):
        """The words of a desk are those of the functions."""
        for _, vault in some_vaults(60, coins=False):
            desk = Desk()
            desk.tell("open a " + texts.vault_text(vault).replace("\n", "|"))
            self.assertEqual([desk.tell(f"{word} a") == "yes" for word in ("pastless", "moments", "forever")],
                             [pastless(vault), moment_paper(vault)[0] == "table", forever(vault)])
            self.assertEqual(desk.tell("holds a"), str(len(contents(vault))))


if __name__ == "__main__":
    unittest.main()
