"""[2] to [6], and [44] and [45]: what holds of all functions, the examples and the interface."""

import copy
import inspect
import unittest

from pastless import (choices, coins, cuts, desk, editions, errors, facts, hands, holds, houses, layings, likes, looks, moments, orders, readers,
                      rowtexts, runs, strikes, tables, texts, vaults, wishes)
from pastless.errors import (HasCoins, NoCall, NoCoins, NoMost, NoNames, NoState, NotComing, NotSure, TooMany)
from pastless.vaults import Vault
from odd import ODD, odd_but
from slow import K, LOOSE, UNSURE, V, W, counter
from slow_wishes import ring_wish

MOST = [
    (holds.states, ()), (holds.unsure, ()), (holds.contents, ()), (holds.content, ("first",)),
    (holds.parted, ("first", "first")), (holds.most_layouts, ()), (likes.likeness, ("first", "first")), (looks.pastless, ()),
    (looks.past_paper, ()), (coins.forever, ()), (coins.forever_paper, ()), (coins.returns, ()), (choices.best_choice, ()),
]


# Of vaults without coins alone.
PLAIN_MOST = [
    lambda vault, **named: facts.known(vault, still(vault), vault.first(), **named),
    lambda vault, **named: facts.known_held(vault, still(vault), vault.first(), **named),
    lambda vault, **named: facts.told(vault, still(vault), **named), facts.telling_reader,
    lambda vault, **named: strikes.never(vault, [vault.calls()[0]], vault.calls()[-1], **named),
    moments.moment_paper, cuts.cut_states, cuts.cut_paper,
    lambda vault, **named: wishes.unkept(vault, silent(vault), **named),
    lambda vault, **named: editions.edition_paper(vault, vault, **named), lambda vault, **named: looked_at(vault).known(still(vault), **named),
]


def still(vault):
    """A reader of one stand."""
    return readers.Reader(vault, 1, 0, {(0, call): 0 for call in vault.calls()}, [0])


def looked_at(vault):
    """A house whose cells were handed out at its beginning, and once more."""
    house = houses.House(vault)
    house.look()
    house.look()
    return house


def silent(vault):
    """The wish that each call answers 0."""
    return wishes.Wish([(name, vault.choices(name)) for name in vault.names()], [{call: (0, 0) for call in vault.calls()}])


def arguments(vault, names):
    """The vault, and its first state for each name."""
    return [vault] + [vault.first() for _ in names]


def lists_in(value):
    """Each list and dict in a value."""
    found = [value] if isinstance(value, (list, dict)) else []
    if isinstance(value, (list, tuple, dict)):
        for part in value.values() if isinstance(value, dict) else value:
            found += lists_in(part)
    return found


def laid_open(value):
    """The value, with the parts of readers in their place: they have no equality of their own."""
    if isinstance(value, readers.Reader):
        return vars(value)
    return [laid_open(part) for part in value] if isinstance(value, list) else value


def spoil(value):
    """Changes each list and dict in a value."""
    for part in lists_in(value):
        part.clear()


class Most(unittest.TestCase):

    def test_no_most(self):
        for what, names in MOST:
            for value in [value for value in odd_but(1, 7)] + [100001, -5, "2000", 2000.0, [2000]]:
                with self.assertRaises(NoMost):
                    what(*arguments(V, names), most=value)
            what(*arguments(V, names), most=3)
            what(*arguments(V, names), most=100000)

    def test_too_many(self):
        for what, names in MOST:
            for vault in (V, W, K, LOOSE, counter(2, 5)):
                many = len(holds.states(vault))
                what(*arguments(vault, names), most=many)
                with self.assertRaises(TooMany) as caught:
                    what(*arguments(vault, names), most=many - 1)
                self.assertEqual(caught.exception.most, many - 1)
            with self.assertRaises(TooMany) as caught:
                what(*arguments(counter(4, 7), names))
            self.assertEqual(caught.exception.most, 2000)

    def test_plain(self):
        # "on" does nothing, so that what is left of a past ends in the same state.
        for sizes, many in [((2, 3), 6), ((9,), 9), ((1,), 1), ((5, 5, 5, 4, 4), 2000), ((9, 8, 7, 4), 2016)]:
            deeds = [("on", 1, ())] + [(name, size, (("set", at, "x"),)) for at, (name, size) in enumerate(zip("abcdef", sizes))]
            vault = Vault([(size, 0) for size in sizes], deeds + [("no", 1, ())])
            for what in PLAIN_MOST:
                for value in [0, True, None, 100001, "1", [], (1,)]:
                    with self.assertRaises(NoMost):
                        what(vault, most=value)
                what(vault, most=many)
                if many <= 2000:
                    what(vault)
                else:
                    with self.assertRaises(TooMany) as caught:
                        what(vault)
                    self.assertEqual(caught.exception.most, 2000)
                if many > 1:
                    with self.assertRaises(TooMany) as caught:
                        what(vault, most=many - 1)
                    self.assertEqual(caught.exception.most, many - 1)
            for what, names in MOST:
                if many == 2000:
                    what(*arguments(vault, names))
                elif many > 2000:
                    with self.assertRaises(TooMany):
                        what(*arguments(vault, names))
            for vault in (K, LOOSE, UNSURE):
                for what in PLAIN_MOST:
                    for most in (0, 1, 2000):
                        with self.assertRaises(HasCoins):
                            what(vault, most=most)

    def test_where_little_would_show_it(self):
        # Already the first call shows that it is not sure; and the two states are the same one.
        wide = Vault([(9, 0), (9, 0), (9, 0), (9, 0)], [("flip", 1, (("coin", "a"), ("answer", "a")))] + [
            (name, 9, (("set", at, "x"),)) for at, name in enumerate("abcd")])
        for what, names in MOST:
            with self.assertRaises(TooMany):
                what(*arguments(wide, names))

    def test_order_of_errors(self):
        for what, names in MOST:
            if names:
                with self.assertRaises(NoState):
                    what(V, *["none" for _ in names], most=0)
            with self.assertRaises(NoMost):
                what(*arguments(UNSURE, names), most=0)
            with self.assertRaises(TooMany):
                what(*arguments(UNSURE, names), most=1)
            if what not in (holds.states, holds.unsure):
                with self.assertRaises(NotSure):
                    what(*arguments(UNSURE, names))
        with self.assertRaises(NotSure):
            wishes.wish_of(UNSURE)
        gone = Vault([(3, 0)], [("flip", 1, (("coin", "a"), ("set", 0, "a"), ("answer", "a")))])
        calm = Vault([(3, 0)], [("one", 1, (("set", 0, 1),))])
        for what, names in MOST:
            if names:
                states = [(2,) for _ in names]
                for most, error in [(0, NoMost), (1, TooMany), (2, NotSure)]:
                    with self.assertRaises(error):
                        what(gone, *states, most=most)
                for most, error in [(None, NoMost), (1, TooMany), (2, NotComing)]:
                    with self.assertRaises(error):
                        what(calm, *states, most=most)
                with self.assertRaises(NoState):
                    what(calm, *states[1:], (3,), most=0)

    def test_names_ahead_of_most(self):
        for what in (looks.pastless, looks.past_paper):
            with self.assertRaises(NoNames):
                what(UNSURE, behind=[], most=0)
            with self.assertRaises(HasCoins):
                what(UNSURE, behind=["flip"], most=0)
            with self.assertRaises(NoMost):
                what(V, behind=["put"], most=0)
            with self.assertRaises(TooMany):
                what(V, behind=["put"], most=2)


def samples():
    """Functions with arguments, one list for each point."""
    row = [("put", 1), ("get", 0), ("put", 0)]
    reader = readers.Reader(V, 1, 0, {(0, call): 0 for call in V.calls()}, [0])
    return [
        (vaults.vault_of, [V.shape()], {}), (vaults.begun, [V, (2,)], {}),
        (runs.called, [V, (1,), ("put", 2), [0, 1]], {}), (runs.steps, [W, (1, 0), ("put", 0), [0]], {}),
        (runs.outcomes, [K, (0,), ("lay", 0)], {}), (runs.led, [W, row], {}), (runs.answered, [W, row], {}),
        (runs.share, [LOOSE, [("toss", 0), ("put", 1)]], {}),
        (holds.states, [W], {}), (holds.unsure, [UNSURE], {}), (holds.unsure_fault, [UNSURE, holds.unsure(UNSURE)], {}),
        (holds.contents, [W], {"most": 9}), (holds.content, [W, (0, 1)], {}), (holds.parted, [W, (0, 0), (1, 1)], {}),
        (holds.most_layouts, [W], {}), (likes.likeness, [W, (0, 0), (0, 1)], {}),
        (likes.likeness_fault, [W, (0, 0), (0, 1), [((0, 0), (0, 1)), ((1, 0), (0, 1))]], {}),
        (looks.pastless, [W], {"behind": ["get", "put"]}), (looks.past_paper, [V], {"behind": ["put"]}),
        (looks.past_paper, [W], {"behind": ["put"]}), (looks.past_paper, [K], {}), (looks.past_paper, [LOOSE], {}),
        (looks.past_fault, [V, looks.past_paper(V)], {"behind": ["put"]}), (looks.past_fault, [W, looks.past_paper(W)], {}),
        (looks.past_fault, [LOOSE, looks.past_paper(LOOSE)], {}),
        (V.names, [], {}), (V.calls, [], {}), (V.rows, ["put"], {}), (V.shape, [], {}), (reader.reads, [row], {}),
    ] + samples_of_plain(row) + samples_of_wishes()


def samples_of_plain(row):
    """Functions of vaults without coins, with arguments."""
    reader = ever_one()
    told = facts.told(W, reader)
    cut = ("cut", ("put", 1), 1)
    return [
        (facts.known, [W, reader, (0, 1)], {}), (facts.known_held, [W, reader, (0, 1)], {}), (facts.told, [W, reader], {}),
        (facts.told_fault, [W, reader, told], {}), (facts.told_fault, [W, reader, told[:2] + (told[2][:3],) + told[3:]], {}),
        (strikes.spared, [row, [("put", 1)]], {}), (strikes.spared, [row, []], {}), (strikes.spared, [[], row], {}),
        (strikes.never, [W, [("put", 1)], ("put", 0)], {}), (strikes.never, [V, [("put", 1), ("put", 1)], ("put", 0)], {}),
        (strikes.never_fault, [W, [("put", 1)], ("put", 0), ("shows", row)], {}),
        (strikes.never_fault, [V, [("put", 1)], ("put", 0), strikes.never(V, [("put", 1)], ("put", 0))], {}),
        (moments.moment_paper, [V], {}), (moments.moment_paper, [W], {}), (moments.moment_paper, [counter(2, 2)], {}),
        (moments.moment_fault, [V, looks.past_paper(V)], {}), (moments.moment_fault, [W, looks.past_paper(W)], {}),
        (moments.moment_fault, [W, ("amid", [("put", 1)], ("put", 0), 1)], {}),
        (cuts.cut_led, [W, [cut] + row], {}), (cuts.cut_states, [W], {}), (cuts.cut_paper, [V], {}), (cuts.cut_paper, [W], {}),
        (cuts.cut_fault, [V, cuts.cut_paper(V)], {}), (cuts.cut_fault, [W, ("pasts", [cut] + row, [], [((0, 1), (0, 0))])], {}),
    ]


def samples_of_wishes():
    """Functions and methods of the wishes, and those of coins, with arguments."""
    wish, ring = wishes.wish_of(V), ring_wish(5)
    shown = [coins.forever_paper(vault) for vault in (V, K, W, LOOSE)]
    return [
        (wishes.wish_of, [LOOSE], {}), (wishes.unkept, [V, wish], {}), (wishes.unkept, [V, silent(V)], {}),
        (wish.deeds, [], {}), (wish.calls, [], {}), (wish.ties, [], {}), (wish.shape, [], {}), (wish.answer, [1, ("get", 0)], {}),
        (tables.table_vault, [wish, (2, 2), [(0, 0), (1, 1), (0, 1)]], {}),
        (layings.laid, [wish, (3,)], {}), (layings.laid, [wish, (2, 2)], {}), (layings.laid, [ring, (2, 2, 2)], {}),
        (layings.laid_fault, [wish, (3,), ("laid", [(0,), (1,), (2,)])], {}), (layings.laid_fault, [ring, (2, 2), ("laid", [(0, 0)])], {}),
        (layings.laid_fault, [wish, (2, 2), layings.laid(wish, (2, 2))], {}), (layings.laid_fault, [ring, (2, 2, 2), layings.laid(ring, (2, 2, 2))], {}),
        (layings.laid_fault, [wish, (2, 2), ("barred", ("place", 1, 0, [None, []]))], {}),
        (layings.crowd, [wish], {}), (layings.least_cells, [ring, 2], {}),
        (coins.forever, [LOOSE], {}), (coins.forever_paper, [V], {}), (coins.forever_paper, [K], {}), (coins.forever_paper, [LOOSE], {}),
        (coins.forever_fault, [V, shown[0]], {}), (coins.forever_fault, [K, shown[1]], {}), (coins.forever_fault, [W, shown[2]], {}),
        (coins.forever_fault, [LOOSE, shown[3]], {}), (coins.forever_fault, [K, ("tables", {(0,): shown[1][1][(0,)]})], {}),
        (coins.returns, [K], {}),
    ]


def ever_one():
    """Was 1 ever put? [44]"""
    behind = {(stand, call): stand for stand in (0, 1) for call in W.calls()}
    behind[(0, ("put", 1))] = 1
    return readers.Reader(W, 2, 0, behind, [1])


class Values(unittest.TestCase):

    def test_arguments_stay_as_they_are(self):
        for what, given, named in samples():
            kept, kept_named = copy.deepcopy(given), copy.deepcopy(named)
            what(*given, **named)
            self.assertEqual((laid_open(given), named), (laid_open(kept), kept_named), what)

    def test_what_is_returned_is_new(self):
        for what, given, named in samples():
            handed = lists_in(given) + lists_in(named)
            told = what(*given, **named)
            again = what(*given, **named)
            self.assertEqual(told, again)
            parts = lists_in(told) + lists_in(again)
            self.assertEqual(len({id(part) for part in parts}), len(parts), what)
            self.assertFalse([part for part in parts for one in handed if part is one], what)
            spoil(told)
            self.assertEqual(what(*given, **named), again, what)

    def test_deep_values(self):
        """Whatever is handed in where an error is named, it is that error."""
        for value in odd_but("put", (0,), ("put", 0), [], [0], None, [("put", 0)], 1, 7):
            for error, what in [
                    (errors.NoVault, lambda: Vault(value, value)), (errors.NoVault, lambda: vaults.vault_of(value)),
                    (NoState, lambda: vaults.begun(V, value)), (errors.NoName, lambda: V.choices(value)),
                    (NoState, lambda: runs.called(V, value, value, value)), (NoCall, lambda: runs.called(V, (0,), value, value)),
                    (NoCoins, lambda: runs.steps(V, (0,), ("put", 0), value)), (NoCall, lambda: runs.outcomes(V, (0,), value)),
                    (errors.NoRow, lambda: runs.led(V, value)), (errors.NoRow, lambda: runs.share(V, [value])),
                    (NoState, lambda: holds.content(V, value)), (NoMost, lambda: holds.states(V, most=value)),
                    (NoState, lambda: likes.likeness_fault(V, (0,), value, value)), (NoNames, lambda: looks.pastless(V, behind=value)),
                    (NoNames, lambda: looks.past_fault(V, value, behind=[value])),
                    (errors.NoReader, lambda: readers.Reader(V, 1, value if value != 0 else 1, value, value)),
                    (NoState, lambda: facts.known(V, still(V), value)), (NoState, lambda: facts.known_held(V, still(V), value)),
                    (NoMost, lambda: facts.told(V, still(V), most=value)), (errors.NoStruck, lambda: strikes.never(V, value, value)),
                    (errors.NoStruck, lambda: strikes.never_fault(V, [value], value, value)),
                    (NoCall, lambda: strikes.never(V, [], value)), (NoCall, lambda: strikes.never_fault(V, [("put", 0)], value, value)),
                    (NoMost, lambda: moments.moment_paper(V, most=value)), (NoMost, lambda: cuts.cut_paper(V, most=value)),
                    (errors.NoRow, lambda: cuts.cut_led(V, value)), (errors.NoRow, lambda: cuts.cut_led(V, [value])),
                    (errors.NoRow, lambda: cuts.cut_led(V, [("cut", value, 0)])),
                    (errors.NoWish, lambda: wishes.Wish(value, value)), (errors.NoWish, lambda: wishes.Wish([("a", 1)], [value])),
                    (errors.NoWish, lambda: wishes.Wish([value], value)), (errors.NoWish, lambda: wishes.Wish([("a", 1)], [{("a", 0): value if value != (0, 0) else None}])),
                    (errors.NoContent, lambda: silent(V).answer(value if value != 0 else None, value)),
                    (NoCall, lambda: silent(V).after(0, value)), (NoMost, lambda: wishes.wish_of(V, most=value)),
                    (NoMost, lambda: wishes.unkept(V, silent(V), most=value)), (errors.NoSizes, lambda: layings.laid(silent(V), value)),
                    (errors.NoSizes, lambda: tables.table_vault(silent(V), value, value)), (errors.NoSizes, lambda: layings.laid(silent(V), (value, 2))
                     if value not in (1, 7) else layings.laid(silent(V), ())),
                    (errors.NoLayouts, lambda: tables.table_vault(wishes.wish_of(V), (3,), value)),
                    (errors.NoLayouts, lambda: tables.table_vault(silent(V), (3,), [value if value != (0,) else None])),
                    (errors.NoSize, lambda: layings.least_cells(silent(V), value)), (NoMost, lambda: coins.forever_paper(V, most=value)),
                    (errors.NoRow, lambda: cuts.cut_led(V, [("cut", ("put", 0), value if value not in (0, 1) else None)]))]:
                with self.assertRaises(error):
                    what()

    def test_deep_things(self):
        for value in ODD:
            for thing in [value, [value], (value,), (value, value), [(value, value)], (value, value, value), ("table", value, value),
                          ("table", [value], []), ("table", [{(0,): value}], [value]), ("pasts", [], [], value), ("pasts", [value], [], []),
                          ("pasts", [], [], [(value, value)]), ([("get", 0)], [value], [value])]:
                holds.unsure_fault(V, thing)
                likes.likeness_fault(V, (0,), (0,), thing)
                looks.past_fault(V, thing)
                moments.moment_fault(V, thing)
                cuts.cut_fault(V, thing)
                facts.told_fault(V, still(V), thing)
                strikes.never_fault(V, [], ("get", 0), thing)
                coins.forever_fault(V, thing)
                layings.laid_fault(wishes.wish_of(V), (2, 2), thing)
                layings.laid_fault(wishes.wish_of(V), (2, 2), ("barred", thing))
            for thing in [("tables", value), ("tables", {(0,): value}), ("tables", {(0,): ([value], value)}), ("tables", {(0,): ([], [value])}),
                          ("looks", value, value, value, value, value), ("looks", [], (0,), [], [], [value]), ("looks", [], value, [], [], [])]:
                coins.forever_fault(V, thing)
            for thing in [("laid", value), ("laid", [value]), ("barred", ("crowd", value)), ("barred", ("place", value, value, value)),
                          ("barred", ("place", 1, 0, [value, value])), ("barred", ("place", 1, 0, [("taken", value), ("apart", value)]))]:
                layings.laid_fault(wishes.wish_of(V), (2, 2), thing)
            for thing in [([], value, [], [], []), ([], "yes", [value], [], []), ([], "yes", [((0,), value)], [], []),
                          ([], "yes", [(value, 0)], [], []), ([], "no", [], [], [value]), ([value], "no", [], [], [])]:
                facts.told_fault(V, still(V), thing)
            for thing in [("never", [value]), ("never", [((0,), value)]), ("shows", value), ("shows", [value])]:
                strikes.never_fault(V, [], ("get", 0), thing)
            for thing in [("amid", value, value, value), ("amid", [], value, 0), ("amid", [], ("get", 0), value)]:
                moments.moment_fault(V, thing)
            for thing in [("table", [value], []), ("table", [], [value]), ("pasts", [("cut", value, value)], [value], []),
                          ("pasts", [("cut", ("get", 0), value)], [], []), ("pasts", [], [], [((0,), value)])]:
                cuts.cut_fault(V, thing)


class Examples(unittest.TestCase):

    def test_examples(self):
        self.assertEqual(runs.steps(W, (1, 0), ("put", 0), []), [("read", 0, 1, (1, 0)), ("set", 1, 1, (1, 1)), ("set", 0, 0, (0, 1))])
        self.assertEqual(runs.share(K, [("lay", 0)]), {(1,): (1, 2), (2,): (1, 2)})
        self.assertEqual(holds.states(W), [(0, 0), (1, 0), (0, 1), (1, 1)])
        self.assertEqual(holds.contents(W), [[(0, 0), (0, 1)], [(1, 0), (1, 1)]])
        self.assertIs(looks.pastless(V), True)
        self.assertIs(looks.pastless(W), False)
        pairs = looks.past_paper(W)[3]
        self.assertIs(looks.past_fault(W, ("pasts", [("put", 1), ("put", 0)], [], pairs)), None)
        self.assertIs(looks.pastless(K), True)
        self.assertEqual(holds.most_layouts(W), 2)
        R = readers.Reader(W, 2, 0, {(0, ("put", 0)): 0, (0, ("put", 1)): 1, (0, ("get", 0)): 0, (1, ("put", 0)): 1, (1, ("put", 1)): 1,
                                     (1, ("get", 0)): 1}, [1])
        self.assertIs(R.reads([("put", 1), ("put", 0)]), True)
        self.assertIs(R.reads([("put", 0)]), False)
        self.assertEqual(facts.known(W, R, (0, 1)), "yes")
        self.assertEqual(facts.known_held(W, R, (0, 1)), "open")
        self.assertEqual(facts.known(W, R, (0, 0)), "open")
        self.assertEqual(strikes.never(W, [("put", 1)], ("put", 0)), ("shows", [("put", 1)]))
        self.assertEqual(layings.crowd(wishes.wish_of(V)), [0, 1, 2])
        self.assertIs(layings.least_cells(wishes.wish_of(V), 2), None)
        self.assertEqual(layings.least_cells(wishes.wish_of(V), 3), 1)
        self.assertEqual(wishes.wish_of(V).ties(), [(0, 1), (0, 2), (1, 2)])
        self.assertIs(coins.forever(K), True)
        self.assertIs(coins.returns(K), False)
        self.assertEqual(texts.vault_text(V), "cell 3 0\ndeed put 3\nset 0 x\ndeed get 1\nread a 0\nanswer a")
        self.assertEqual(texts.expression_text(("+", "a", ("*", "x", 2))), "(a+(x*2))")
        self.assertEqual(choices.weight(W, [(0, 0), (1, 0)]), (1, 2))
        I = Vault([(3, 0)], [("inc", 1, (("read", "a", 0), ("set", 0, ("+", "a", 1)), ("answer", "a")))])
        self.assertEqual(len(orders.broken(I, "right")), 6)


INTERFACE = {
    vaults: {"Vault": "cells, deeds", "vault_of": "shape", "begun": "vault, state"},
    runs: {"called": "vault, state, call, coins", "steps": "vault, state, call, coins", "outcomes": "vault, state, call",
           "led": "vault, row", "answered": "vault, row", "share": "vault, row"},
    holds: {"states": "vault, *, most=2000", "unsure": "vault, *, most=2000", "unsure_fault": "vault, thing",
            "contents": "vault, *, most=2000", "content": "vault, state, *, most=2000", "parted": "vault, one, other, *, most=2000",
            "most_layouts": "vault, *, most=2000"},
    likes: {"likeness": "vault, one, other, *, most=2000", "likeness_fault": "vault, one, other, thing"},
    looks: {"pastless": "vault, *, behind=None, most=2000", "past_paper": "vault, *, behind=None, most=2000",
            "past_fault": "vault, thing, *, behind=None"},
    readers: {"Reader": "vault, many, first, table, marks"},
    facts: {"known": "vault, reader, state, *, most=2000", "known_held": "vault, reader, state, *, most=2000",
            "told": "vault, reader, *, most=2000", "told_fault": "vault, reader, thing", "telling_reader": "vault, *, most=2000"},
    strikes: {"spared": "row, calls", "never": "vault, calls, close, *, most=2000", "never_fault": "vault, calls, close, thing"},
    moments: {"moment_paper": "vault, *, most=2000", "moment_fault": "vault, thing"},
    wishes: {"Wish": "deeds, table", "wish_of": "vault, *, most=2000", "unkept": "vault, wish, *, most=2000"},
    tables: {"table_vault": "wish, sizes, layouts"},
    layings: {"laid": "wish, sizes", "laid_fault": "wish, sizes, thing", "crowd": "wish", "least_cells": "wish, size"},
    coins: {"forever": "vault, *, most=2000", "forever_paper": "vault, *, most=2000", "forever_fault": "vault, thing",
            "returns": "vault, *, most=2000"},
    hands: {"Hands": "vault"},
    orders: {"order": "vault, weaving, *, cells=False", "order_fault": "vault, weaving, thing, *, cells=False", "kept": "vault, rule, weaving",
             "broken": "vault, rule, *, most=20000"},
    choices: {"weight": "vault, choice, *, most=2000", "best_choice": "vault, *, most=2000", "tidied": "vault, choice, *, most=2000"},
    editions: {"edition_paper": "old, new, *, most=2000", "edition_fault": "old, new, thing"},
    houses: {"House": "vault"},
    texts: {"expression_text": "e", "read_expression": "text", "vault_text": "vault", "read_vault": "text"},
    rowtexts: {"row_text": "row", "weaving_text": "weaving", "state_text": "state", "read_row": "text", "read_weaving": "text", "read_state": "text"},
    desk: {"Desk": ""},
    cuts: {"cut_led": "vault, row", "cut_states": "vault, *, most=2000", "cut_paper": "vault, *, most=2000", "cut_fault": "vault, thing"},
}

METHODS = {
    vaults.Vault: {"sizes": "", "first": "", "names": "", "choices": "name", "rows": "name", "calls": "", "has_coins": "", "shape": "",
                   "__eq__": "other"},
    wishes.Wish: {"many": "", "deeds": "", "calls": "", "answer": "content, call", "after": "content, call", "ties": "", "shape": "",
                  "__eq__": "other"},
    hands.Hands: {"call": "hand, call", "step": "hand", "state": "", "busy": "hand", "weaving": "", "told": ""},
    houses.House: {"tell": "falls", "falls": "", "call": "call", "cut": "call, many", "look": "", "edition": "vault", "state": "", "vault": "", "log": "",
                   "answers": "", "__len__": "", "back": "many", "copy": "", "tried": "action", "known": "reader, *, most=2000"},
    desk.Desk: {"tell": "line", "undoable": ""},
    readers.Reader: {"many": "", "first": "", "after": "stand, call", "marked": "stand", "reads": "row"},
}


class Interface(unittest.TestCase):

    def test_functions_and_classes(self):
        for module, names in INTERFACE.items():
            for name, told in names.items():
                thing = getattr(module, name)
                self.assertEqual(thing.__module__, module.__name__)
                self.assertEqual(str(inspect.signature(thing)), f"({told})")

    def test_methods(self):
        for kind, names in METHODS.items():
            for name, told in names.items():
                self.assertEqual(str(inspect.signature(vars(kind)[name])), f"({', '.join(['self'] + told.split(', ') * bool(told))})")


if __name__ == "__main__":
    unittest.main()
