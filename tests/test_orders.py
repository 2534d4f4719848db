"""[32] to [34]: orders of weavings, and the rules."""

import random
import unittest

import slow_hands
from pastless.errors import HasCoins, NoMost, NoRule, NoWeaving, TooMany
from pastless.hands import Hands
from pastless.holds import states
from pastless.looks import pastless
from pastless.orders import broken, kept, order, order_fault
from pastless.runs import steps
from pastless.vaults import Vault
from odd import ODD, odd_but
from slow import K, LOOSE, UNSURE, V, W, Maker
from slow_hands import I, SWAP, Tale, all_weavings, made_weaving, racy_vault, scenes

INC, GET, ONE, PUT = ("inc", 0), ("get", 0), ("put", 1), ("put", 0)
RULES = ("right", "rest", "moment")
# Both hands read 0, then both set 1 and answer 0.
LOST = [("call", 0, INC), ("step", 0), ("call", 1, INC), ("step", 1), ("step", 0), ("step", 1)]


def calls(*items):
    """A weaving: a number is a step of this hand."""
    return [("step", item) if isinstance(item, int) else ("call",) + item for item in items]


# Two cells that are written one behind the other, and read.
PAIR = Vault([(2, 0), (2, 0)], [("put", 2, (("set", 0, "x"), ("set", 1, "x"))),
                                ("get", 1, (("read", "a", 0), ("read", "b", 1), ("answer", ("+", "a", ("*", 2, "b")))))])
# Nobody sees what it writes, but in the cells.
BLIND = Vault([(3, 0)], [("on", 1, (("read", "a", 0), ("set", 0, ("+", "a", 1))))])
# Deeds without a step.
CALM = Vault([(2, 0)], [("none", 1, ()), ("set", 2, (("set", 0, "x"),)), ("get", 1, (("read", "a", 0), ("answer", "a")))])


def some_weaving(dice, vault):
    """A weaving made with dice, or one that breaks a rule, with some items more or less."""
    weaving = []
    if dice.random() < 0.6:
        try:
            weaving = broken(vault, dice.choice(RULES), most=2000) or []
        except TooMany:
            pass
    if weaving and dice.random() < 0.3:
        return weaving[:dice.randrange(len(weaving))]
    for _ in range(dice.randrange(4 if weaving else 14)):
        weaving.append(dice.choice(Tale(vault, weaving).next_items()))
    return weaving


class Order(unittest.TestCase):

    def test_no_call(self):
        for vault in (V, W, I):
            for cells in (False, True):
                self.assertEqual(order(vault, [], cells=cells), [])
                self.assertIs(order_fault(vault, [], [], cells=cells), None)
        self.assertEqual(order(V, []), [])

    def test_none(self):
        self.assertIs(order(I, LOST), None)
        self.assertIs(order(I, LOST, cells=True), None)
        # As long as one has not answered, it may be thought to have come behind the other one, or not at all.
        self.assertIn(order(I, LOST[:-1]), ([0], [0, 1]))
        self.assertEqual(order(I, LOST[:-1], cells=True), [0])

    def test_unanswered(self):
        weaving = calls((0, ONE), 0)
        for listed in ([], [0]):
            self.assertIs(order_fault(PAIR, weaving, listed), None)
        self.assertIs(order(PAIR, weaving, cells=True), None)
        self.assertEqual(order_fault(PAIR, weaving, [], cells=True), ("cells",))
        self.assertEqual(order_fault(PAIR, weaving, [0], cells=True), ("cells",))
        # The reader answers what is there in the middle, which is no whole call's.
        weaving += calls((1, GET), 1, 1)
        self.assertIs(order(PAIR, weaving), None)
        # If it comes later, the put that goes on is thought to be whole; it must be in the order then.
        weaving = calls((0, ONE), (1, GET), 0, 1, 0, 1)
        self.assertEqual(order(PAIR, weaving), [0, 1])
        weaving = calls((0, ("set", 1)), (1, GET), 1)
        self.assertEqual(order_fault(CALM, weaving, [1]), None)
        self.assertEqual(order_fault(CALM, weaving, [1, 0]), None)
        self.assertEqual(order_fault(CALM, weaving, [0, 1]), ("answer", 1))

    def test_left_out_or_put_in(self):
        """A call that is not answered is in the order if another one's answer hangs on it, or the cells do."""
        vault = Vault([(2, 0)], [("put", 1, (("set", 0, 1), ("read", "a", 0))), ("get", 1, (("read", "a", 0), ("answer", "a")))])
        weaving = calls((0, ("put", 0)), 0, (1, GET), 1)
        self.assertEqual(order(vault, weaving), [0, 1])
        self.assertEqual(order(vault, calls((0, ("put", 0)), 0), cells=True), [0])
        self.assertEqual(order(vault, calls((0, ("put", 0))), cells=True), [])
        self.assertEqual(order_fault(vault, weaving, [1]), ("answer", 0))

    def test_time(self):
        """Of calls that do not overlap the first one stays the first one."""
        weaving = calls((0, ("set", 1)), 0, (1, ("set", 0)), 1, (0, GET), 0)
        self.assertEqual(order(CALM, weaving), [0, 1, 2])
        self.assertEqual(order_fault(CALM, weaving, [1, 0, 2]), ("time", 0, 1))
        self.assertEqual(order_fault(CALM, weaving, [2, 0, 1]), ("time", 0, 1))
        self.assertEqual(order_fault(CALM, weaving, [0, 2, 1]), ("time", 1, 2))
        # A call that goes on meanwhile may be thought to be anywhere.
        weaving = calls((0, ("set", 1)), (1, GET), 1, (1, GET), 1, 0, (1, GET), 1)
        self.assertEqual(order(CALM, weaving), [1, 2, 0, 3])
        for listed, fault in (([0, 1, 2, 3], ("answer", 1)), ([1, 0, 2, 3], ("answer", 2)), ([1, 2, 3, 0], ("time", 2, 3))):
            self.assertEqual(order_fault(CALM, weaving, listed), fault)

    def test_like_the_slow_ones(self):
        found = set()
        for seed in range(260):
            maker = Maker(seed)
            vault = racy_vault(maker.dice) if seed % 3 else maker.vault()
            weaving = some_weaving(maker.dice, vault)
            tale = Tale(vault, weaving)
            if len(tale.made) > 6:
                continue
            orders = list(tale.orders())
            for cells in (False, True):
                fitting = [list(listed) for listed, state, _ in orders if not cells or state == tuple(tale.cells)]
                told = order(vault, weaving, cells=cells)
                if fitting:
                    self.assertIn(told, fitting)
                    self.assertIs(order_fault(vault, weaving, told, cells=cells), None)
                else:
                    self.assertIs(told, None)
                found.add((cells, told is None))
            self.assertEqual(order(vault, weaving), order(vault, weaving, cells=False))
        self.assertEqual(len(found), 4)

    def test_long_weavings(self):
        for seed in range(12):
            dice = random.Random(seed)
            hands, vault = Hands(SWAP), SWAP
            while len(hands.weaving()) < 400:
                hand = dice.randrange(2)
                hands.call(hand, INC) if hands.busy(hand) is None else hands.step(hand)
            told = order(vault, hands.weaving())
            self.assertIs(order_fault(vault, hands.weaving(), told), None)
            self.assertIs(kept(vault, "right", hands.weaving()), True)
            answered = [item for item in hands.told() if item[0] == "answered"]
            self.assertTrue(len(answered) <= len(told) <= len(answered) + 2)


class Fault(unittest.TestCase):

    def test_form(self):
        for thing in ODD:
            fault = order_fault(W, calls((0, ONE), (1, PUT)), thing)
            self.assertEqual(fault, None if thing == [] or thing == [0] and type(thing[0]) is int else ("form",), thing)
        for thing in [(), (0,), [0, 0], [1, 0, 1], [2], [-1], [True], [0, True], [False, 1], ["0"], [[0]], [(0,)], [None], {}, {0: 0}, "0", 0,
                      [10 ** 30], [0, 1, 2]]:
            self.assertEqual(order_fault(W, calls((0, ONE), (1, PUT)), thing), ("form",))
        # No number is one of a weaving without calls.
        self.assertEqual(order_fault(W, [], [0]), ("form",))
        for thing in ODD:
            if thing != []:
                self.assertEqual(order_fault(V, [], thing), ("form",))

    def test_clauses_in_their_order(self):
        weaving = calls((0, ("set", 1)), 0, (1, GET), (0, GET), 1, 0, (1, ("set", 0)), 1, (0, ("none", 0)), (0, ("set", 1)))
        self.assertEqual([one[4] for one in Tale(CALM, weaving).made], [0, 1, 1, 0, 0, None])
        for listed, fault in [([0, 1, 2, 3, 4], None), ([0, 2, 1, 3, 4, 5], None), ([0, 1, 2, 3, 5, 4], ("time", 4, 5)),
                              ([], ("lack", 0)), ([4, 3, 2, 1], ("lack", 0)), ([0, 4], ("lack", 1)), ([1, 0, 2, 3], ("lack", 4)),
                              ([1, 0, 2, 3, 4], ("time", 0, 1)), ([0, 1, 3, 2, 4], ("time", 2, 3)), ([0, 4, 3, 1, 2], ("time", 1, 2)),
                              ([3, 0, 1, 2, 4], ("time", 0, 1)), ([5, 0, 1, 2, 3, 4], ("time", 0, 1))]:
            self.assertEqual(order_fault(CALM, weaving, listed), fault)
        self.assertIs(order_fault(CALM, weaving, [0, 1, 2, 3, 4], cells=True), None)
        self.assertEqual(order_fault(CALM, weaving, [0, 1, 2, 3, 4, 5], cells=True), ("cells",))
        self.assertIs(order_fault(CALM, weaving, [0, 1, 2, 3, 4, 5], cells=False), None)
        self.assertEqual(order_fault(I, LOST, [0, 1], cells=True), ("answer", 1))
        self.assertEqual(order_fault(I, LOST, [1, 0], cells=True), ("answer", 1))
        self.assertEqual(order_fault(BLIND, [("call", hand, ("on", 0)) for hand in (0, 1)] + calls(0, 1, 0, 1), [1, 0]), None)
        self.assertEqual(order_fault(BLIND, [("call", hand, ("on", 0)) for hand in (0, 1)] + calls(0, 1, 0, 1), [1, 0], cells=True), ("cells",))

    def test_like_the_slow_one(self):
        found = set()
        for seed in range(250):
            maker = Maker(seed)
            vault = racy_vault(maker.dice) if seed % 3 else maker.vault()
            weaving = made_weaving(maker.dice, vault, maker.dice.randrange(16))
            many = len(Tale(vault, weaving).made)
            for _ in range(8):
                listed = maker.dice.sample(range(many), maker.dice.choice([many, maker.dice.randrange(many + 1)]))
                if maker.dice.random() < 0.5:
                    listed.sort()
                for cells in (False, True):
                    fault = order_fault(vault, weaving, listed, cells=cells)
                    self.assertEqual(fault, slow_hands.order_fault(vault, weaving, listed, cells))
                    found.add((cells, fault and fault[0]))
        self.assertEqual(found, {(cells, kind) for cells in (False, True) for kind in (None, "lack", "time", "answer", "cells")} - {(False, "cells")})


def wrong_at(test, index, what):
    with test.assertRaises(NoWeaving) as caught:
        what()
    test.assertEqual(caught.exception.index, index)


def uses(vault, weaving):
    """All that is handed a weaving."""
    return [lambda: order(vault, weaving), lambda: order(vault, weaving, cells=True), lambda: order_fault(vault, weaving, None),
            lambda: order_fault(vault, weaving, [], cells=True)] + [lambda rule=rule: kept(vault, rule, weaving) for rule in RULES]


class Errors(unittest.TestCase):

    def test_coins(self):
        for vault in (K, LOOSE, UNSURE):
            for value in ODD:
                for what in uses(vault, value):
                    with self.assertRaises(HasCoins):
                        what()
            with self.assertRaises(HasCoins):
                kept(vault, "none", None)
            with self.assertRaises(HasCoins):
                broken(vault, "none", most=0)

    def test_no_list(self):
        for value in ODD + [(), (("call", 0, ONE),), "call", {0: ("call", 0, ONE)}, ("call", 0, ONE)]:
            if not isinstance(value, list):
                for what in uses(W, value):
                    wrong_at(self, -1, what)

    def test_items(self):
        start = calls((0, ONE))
        wrong = ODD + [["call", 1, ONE], ["step", 0], ("call", 1), ("call", 1, ONE, 0), ("step",), ("step", 0, 0), ("step", 1), ("call", 0, ONE),
                       ("Call", 1, ONE), ("Step", 0), ("call", 2, ONE), ("call", True, ONE), ("call", -1, ONE), ("call", "1", ONE), ("call", [1], ONE),
                       ("call", 1, ("put", 2)), ("call", 1, ("put", True)), ("call", 1, ["put", 1]), ("call", 1, ("none", 0)), ("call", 1, None),
                       ("step", False), ("step", 2), ("step", -1), ("step", None), ("step", [0]), ("called", 1, ONE), ("put", 1), (0, "step")]
        wrong += [("call", value, ONE) for value in odd_but(1)] + [("call", 1, value) for value in odd_but(PUT)] + [("step", value) for value in odd_but(0)]
        for value in wrong:
            for what in uses(W, start + [value, value]):
                wrong_at(self, 1, what)
            for what in uses(W, [value]):
                if value != ("call", 0, ONE):
                    wrong_at(self, 0, what)
        # The call is over, so that no step of it is left.
        for what in uses(W, start + calls(0, 0, 0, 0)):
            wrong_at(self, 4, what)
        for what in uses(CALM, calls((0, ("none", 0)), 0)):
            wrong_at(self, 1, what)
        for what in uses(W, start + calls(0, 0, (0, ONE))):
            wrong_at(self, 3, what)

    def test_rules(self):
        for value in odd_but() + ["Right", "", "right ", ("right",), ["rest"], {"rest": 0}, None, 0, "moments"]:
            with self.assertRaises(NoRule):
                kept(W, value, None)
            with self.assertRaises(NoRule):
                broken(W, value, most=0)
        wrong_at(self, 0, lambda: kept(W, "rest", [None]))

    def test_most(self):
        for rule in RULES:
            for value in odd_but(1, 7) + [100001, 0, -1]:
                with self.assertRaises(NoMost):
                    broken(V, rule, most=value)
            self.assertIs(broken(V, rule, most=100000), None)


class Kept(unittest.TestCase):

    def test_each_beginning(self):
        self.assertIs(kept(I, "right", LOST[:-1]), True)
        self.assertIs(kept(I, "right", LOST), False)
        # Behind it there is no order for any longer weaving, and none is looked for.
        for more in (calls((0, INC)), calls((1, INC), (0, INC), 1, 0, 1, 0)):
            for rule in RULES:
                self.assertIs(kept(I, rule, LOST + more), False)
        for rule in RULES:
            for vault in (V, W, I):
                self.assertIs(kept(vault, rule, []), True)

    def test_rest(self):
        weaving = [("call", hand, ("on", 0)) for hand in (0, 1)] + calls(0, 1, 0, 1)
        self.assertIs(kept(BLIND, "right", weaving), True)
        self.assertIs(kept(BLIND, "rest", weaving), False)
        self.assertIs(kept(BLIND, "rest", weaving[:-1]), True)
        self.assertIs(kept(BLIND, "moment", weaving[:-1]), True)
        # At rest once more it would be well, but not in between.
        third = weaving + calls((0, ("on", 0)), 0, 0)
        self.assertIs(kept(BLIND, "rest", third), False)
        self.assertIs(kept(BLIND, "right", third), True)

    def test_moment(self):
        weaving = calls((0, ONE), 0, 0)
        self.assertIs(kept(PAIR, "moment", weaving[:1]), True)
        self.assertIs(kept(PAIR, "moment", weaving[:2]), False)
        self.assertIs(kept(PAIR, "rest", weaving), True)
        # Behind the whole weaving there is an order with the cells; behind a beginning of it there is none.
        self.assertEqual(order(PAIR, weaving, cells=True), [0])
        self.assertIs(kept(PAIR, "moment", weaving), False)

    def test_like_the_slow_one(self):
        found = set()
        for seed in range(250):
            maker = Maker(seed)
            vault = racy_vault(maker.dice) if seed % 3 else maker.vault()
            weaving = some_weaving(maker.dice, vault)
            if len(Tale(vault, weaving).made) > 6:
                continue
            for rule in RULES:
                told = kept(vault, rule, weaving)
                self.assertIs(told, slow_hands.is_kept(vault, rule, weaving))
                found.add((rule, told))
        self.assertEqual(len(found), 6)


class Broken(unittest.TestCase):

    def check(self, vault, rule, length):
        weaving = broken(vault, rule)
        if length is None:
            self.assertIs(weaving, None)
        else:
            self.assertEqual(len(weaving), length)
            self.assertIs(kept(vault, rule, weaving), False)
            for many in range(length):
                self.assertIs(kept(vault, rule, weaving[:many]), True)

    def test_rules(self):
        for vault, lengths in ((I, (6, 6, 6)), (V, (None, None, None)), (CALM, (None, None, None)), (BLIND, (None, 6, 6)),
                               (W, (None, 8, 7)), (PAIR, (5, 5, 2))):
            for rule, length in zip(RULES, lengths):
                self.check(vault, rule, length)

    def test_shortest_of_all_weavings(self):
        for vault in (I, BLIND, PAIR, W):
            for rule in RULES:
                weaving = broken(vault, rule)
                bound = 6 if vault in (I, BLIND) else 4
                told = None if weaving is None or len(weaving) > bound else len(weaving)
                self.assertEqual(slow_hands.broken_length(vault, rule, bound), told)

    def test_scenes(self):
        """TooMany just at the number of the scenes, and the shortest weaving, by going through all scenes slowly."""
        found = set()
        for seed in range(160):
            vault = racy_vault(random.Random(seed))
            known = scenes(vault, 110)
            if known is None:
                continue
            for rule in RULES:
                wrong = [weaving for weaving in known.values() if not Tale(vault, weaving).is_kept(rule)]
                told = broken(vault, rule, most=len(known))
                found.add((rule, told is None))
                self.assertEqual(told, broken(vault, rule, most=len(known)))
                if wrong:
                    self.check(vault, rule, min(map(len, wrong)))
                else:
                    self.assertIs(told, None)
                    if len(known) > 1:
                        with self.assertRaises(TooMany) as caught:
                            broken(vault, rule, most=len(known) - 1)
                        self.assertEqual(caught.exception.most, len(known) - 1)
        self.assertEqual(len(found), 6)

    def test_the_slow_scenes(self):
        """Weavings with one scene are gone on with alike: so the scenes are those of all weavings."""
        for vault, length in ((I, 6), (BLIND, 6), (PAIR, 4), (CALM, 4)):
            known = scenes(vault, 10 ** 4, length)
            met = {Tale(vault, weaving).scene() for many in range(length + 1) for weaving in all_weavings(vault, many)}
            self.assertEqual(met, set(known))

    def test_few_scenes(self):
        # A call without a step leaves nothing: there is one scene.
        none = Vault([(1, 0)], [("none", 1, ()), ("say", 9, (("answer", "x"),))])
        for rule in RULES:
            self.assertIs(broken(none, rule, most=1), None)

    def test_too_many_where_it_breaks(self):
        """Either a weaving or TooMany is told if more scenes can come; a weaving if no more can."""
        for rule in RULES:
            for most in (1, 5, 10, 20, 40):
                try:
                    self.assertEqual(len(broken(I, rule, most=most)), 6)
                except TooMany as error:
                    self.assertEqual(error.most, most)
        known = len(scenes(BLIND, 2000))
        self.assertIs(broken(BLIND, "right", most=known), None)
        self.assertEqual(len(broken(BLIND, "rest", most=known)), 6)

    def test_the_bound_that_is_left_out(self):
        """Calls that only read: a scene is what each hand is amid, if it is, and how many steps it made."""
        for many, scenes_of_it in ((140, 141 ** 2), (141, 142 ** 2)):
            vault = Vault([(1, 0)], [("see", 1, (("read", "a", 0),) * many)])
            for rule in RULES:
                if scenes_of_it <= 20000:
                    self.assertIs(broken(vault, rule), None)
                else:
                    with self.assertRaises(TooMany) as caught:
                        broken(vault, rule)
                    self.assertEqual(caught.exception.most, 20000)
                self.assertIs(broken(vault, rule, most=scenes_of_it), None)
                with self.assertRaises(TooMany):
                    broken(vault, rule, most=scenes_of_it - 1)


class Facts(unittest.TestCase):

    def test_rules_among_themselves(self):
        found = set()
        for seed in range(250):
            vault = racy_vault(random.Random(seed)) if seed % 2 else Maker(seed).vault(most_cells=2, sizes=2)
            held = []
            for rule in RULES:
                try:
                    held.append(broken(vault, rule, most=3000) is None)
                except TooMany:
                    held.append(None)
            if None not in held:
                right, rest, moment = held
                self.assertTrue(right or not rest)
                self.assertTrue(rest or not moment)
                found.add((right, rest, moment))
        self.assertEqual(found, {(True, True, True), (True, True, False), (True, False, False), (False, False, False)})

    def test_one_step(self):
        met = 0
        for seed in range(400):
            vault = racy_vault(random.Random(seed)) if seed % 2 else Maker(seed).vault(most_cells=2, sizes=2)
            every = [(one, other) for one in range(9) for other in range(9)]
            listed = [state for state in [(one,) for one in range(9)] + every
                      if len(state) == len(vault.sizes()) and all(held < size for held, size in zip(state, vault.sizes()))]
            if all(len(steps(vault, state, call, [])) <= 1 for state in listed for call in vault.calls()):
                met += 1
                self.assertIs(broken(vault, "moment"), None)
        self.assertGreater(met, 20)

    def test_pastless_and_kept(self):
        """At each moment, or at rest, the cells are those of the content behind some order of the weaving."""
        met = {"moment": 0, "rest": 0}
        for seed in range(300):
            vault = racy_vault(random.Random(seed)) if seed % 2 else Maker(seed).vault(most_cells=2, sizes=2)
            if not pastless(vault) or len(states(vault)) < 2:
                continue
            for rule in ("moment", "rest"):
                try:
                    if broken(vault, rule, most=3000) is not None:
                        continue
                except TooMany:
                    continue
                met[rule] += 1
                dice = random.Random(seed)
                for _ in range(3):
                    weaving = made_weaving(dice, vault, 9)
                    tale = Tale(vault, weaving)
                    if rule == "moment" or tale.amid == [None, None]:
                        # Each content is one state, since it is pastless.
                        self.assertIn(tuple(tale.cells), [state for _, state, _ in tale.orders()])
        self.assertGreater(min(met.values()), 15)


class Values(unittest.TestCase):

    def test_what_is_returned_is_new(self):
        weaving = calls((0, ONE), (1, PUT), 0, 1)
        first = order(W, weaving)
        first.append(None)
        self.assertNotIn(None, order(W, weaving))
        told = broken(I, "right")
        told.clear()
        self.assertEqual(len(broken(I, "right")), 6)
        self.assertEqual(weaving, calls((0, ONE), (1, PUT), 0, 1))


if __name__ == "__main__":
    unittest.main()
