"""[2] to [6], and [44] and [45]: what holds of all functions, the examples and the interface."""

import copy
import inspect
import unittest

from pastless import errors, holds, likes, looks, readers, runs, vaults
from pastless.errors import (HasCoins, NoCall, NoCoins, NoMost, NoNames, NoState, NotComing, NotSure, TooMany)
from pastless.vaults import Vault
from odd import ODD, odd_but
from slow import K, LOOSE, UNSURE, V, W, counter

MOST = [
    (holds.states, ()), (holds.unsure, ()), (holds.contents, ()), (holds.content, ("first",)),
    (holds.parted, ("first", "first")), (holds.most_layouts, ()), (likes.likeness, ("first", "first")), (looks.pastless, ()),
    (looks.past_paper, ()),
]


def arguments(vault, names):
    """The vault, and its first state for each name."""
    return [vault] + [vault.first() for _ in names]


def lists_in(value):
    """Each list and dict in a value."""
    found = [value] if isinstance(value, (list, dict)) else []
    if isinstance(value, (list, tuple, dict)):
        for part in value.values() if isinstance(value, dict) else value:
            found += lists_in(part)
    return found


def spoil(value):
    """Changes each list and dict in a value."""
    for part in lists_in(value):
        part.clear()


class Most(unittest.TestCase):

    def test_no_most(self):
        for what, names in MOST:
            for value in [value for value in odd_but(1, 7)] + [100001, -5, "2000", 2000.0, [2000]]:
                with self.assertRaises(NoMost):
                    what(*arguments(V, names), most=value)
            what(*arguments(V, names), most=3)
            what(*arguments(V, names), most=100000)

    def test_too_many(self):
        for what, names in MOST:
            for vault in (V, W, K, LOOSE, counter(2, 5)):
                many = len(holds.states(vault))
                what(*arguments(vault, names), most=many)
                with self.assertRaises(TooMany) as caught:
                    what(*arguments(vault, names), most=many - 1)
                self.assertEqual(caught.exception.most, many - 1)
            with self.assertRaises(TooMany) as caught:
                what(*arguments(counter(4, 7), names))
            self.assertEqual(caught.exception.most, 2000)

    def test_where_little_would_show_it(self):
        # Already the first call shows that it is not sure; and the two states are the same one.
        wide = Vault([(9, 0), (9, 0), (9, 0), (9, 0)], [("flip", 1, (("coin", "a"), ("answer", "a")))] + [
            (name, 9, (("set", at, "x"),)) for at, name in enumerate("abcd")])
        for what, names in MOST:
            with self.assertRaises(TooMany):
                what(*arguments(wide, names))

    def test_order_of_errors(self):
        for what, names in MOST:
            if names:
                with self.assertRaises(NoState):
                    what(V, *["none" for _ in names], most=0)
            with self.assertRaises(NoMost):
                what(*arguments(UNSURE, names), most=0)
            with self.assertRaises(TooMany):
                what(*arguments(UNSURE, names), most=1)
            if what not in (holds.states, holds.unsure):
                with self.assertRaises(NotSure):
                    what(*arguments(UNSURE, names))
        gone = Vault([(3, 0)], [("flip", 1, (("coin", "a"), ("set", 0, "a"), ("answer", "a")))])
        calm = Vault([(3, 0)], [("one", 1, (("set", 0, 1),))])
        for what, names in MOST:
            if names:
                states = [(2,) for _ in names]
                for most, error in [(0, NoMost), (1, TooMany), (2, NotSure)]:
                    with self.assertRaises(error):
                        what(gone, *states, most=most)
                for most, error in [(None, NoMost), (1, TooMany), (2, NotComing)]:
                    with self.assertRaises(error):
                        what(calm, *states, most=most)
                with self.assertRaises(NoState):
                    what(calm, *states[1:], (3,), most=0)

    def test_names_ahead_of_most(self):
        for what in (looks.pastless, looks.past_paper):
            with self.assertRaises(NoNames):
                what(UNSURE, behind=[], most=0)
            with self.assertRaises(HasCoins):
                what(UNSURE, behind=["flip"], most=0)
            with self.assertRaises(NoMost):
                what(V, behind=["put"], most=0)
            with self.assertRaises(TooMany):
                what(V, behind=["put"], most=2)


def samples():
    """Functions with arguments, one list for each point."""
    row = [("put", 1), ("get", 0), ("put", 0)]
    reader = readers.Reader(V, 1, 0, {(0, call): 0 for call in V.calls()}, [0])
    return [
        (vaults.vault_of, [V.shape()], {}), (vaults.begun, [V, (2,)], {}),
        (runs.called, [V, (1,), ("put", 2), [0, 1]], {}), (runs.steps, [W, (1, 0), ("put", 0), [0]], {}),
        (runs.outcomes, [K, (0,), ("lay", 0)], {}), (runs.led, [W, row], {}), (runs.answered, [W, row], {}),
        (runs.share, [LOOSE, [("toss", 0), ("put", 1)]], {}),
        (holds.states, [W], {}), (holds.unsure, [UNSURE], {}), (holds.unsure_fault, [UNSURE, holds.unsure(UNSURE)], {}),
        (holds.contents, [W], {"most": 9}), (holds.content, [W, (0, 1)], {}), (holds.parted, [W, (0, 0), (1, 1)], {}),
        (holds.most_layouts, [W], {}), (likes.likeness, [W, (0, 0), (0, 1)], {}),
        (likes.likeness_fault, [W, (0, 0), (0, 1), [((0, 0), (0, 1)), ((1, 0), (0, 1))]], {}),
        (looks.pastless, [W], {"behind": ["get", "put"]}), (looks.past_paper, [V], {"behind": ["put"]}),
        (looks.past_paper, [W], {"behind": ["put"]}), (looks.past_paper, [K], {}), (looks.past_paper, [LOOSE], {}),
        (looks.past_fault, [V, looks.past_paper(V)], {"behind": ["put"]}), (looks.past_fault, [W, looks.past_paper(W)], {}),
        (looks.past_fault, [LOOSE, looks.past_paper(LOOSE)], {}),
        (V.names, [], {}), (V.calls, [], {}), (V.rows, ["put"], {}), (V.shape, [], {}), (reader.reads, [row], {}),
    ]


class Values(unittest.TestCase):

    def test_arguments_stay_as_they_are(self):
        for what, given, named in samples():
            kept, kept_named = copy.deepcopy(given), copy.deepcopy(named)
            what(*given, **named)
            self.assertEqual((given, named), (kept, kept_named), what)

    def test_what_is_returned_is_new(self):
        for what, given, named in samples():
            handed = lists_in(given) + lists_in(named)
            told = what(*given, **named)
            again = what(*given, **named)
            self.assertEqual(told, again)
            parts = lists_in(told) + lists_in(again)
            self.assertEqual(len({id(part) for part in parts}), len(parts), what)
            self.assertFalse([part for part in parts for one in handed if part is one], what)
            spoil(told)
            self.assertEqual(what(*given, **named), again, what)

    def test_deep_values(self):
        """Whatever is handed in where an error is named, it is that error."""
        for value in odd_but("put", (0,), ("put", 0), [], [0], None, [("put", 0)], 1, 7):
            for error, what in [
                    (errors.NoVault, lambda: Vault(value, value)), (errors.NoVault, lambda: vaults.vault_of(value)),
                    (NoState, lambda: vaults.begun(V, value)), (errors.NoName, lambda: V.choices(value)),
                    (NoState, lambda: runs.called(V, value, value, value)), (NoCall, lambda: runs.called(V, (0,), value, value)),
                    (NoCoins, lambda: runs.steps(V, (0,), ("put", 0), value)), (NoCall, lambda: runs.outcomes(V, (0,), value)),
                    (errors.NoRow, lambda: runs.led(V, value)), (errors.NoRow, lambda: runs.share(V, [value])),
                    (NoState, lambda: holds.content(V, value)), (NoMost, lambda: holds.states(V, most=value)),
                    (NoState, lambda: likes.likeness_fault(V, (0,), value, value)), (NoNames, lambda: looks.pastless(V, behind=value)),
                    (NoNames, lambda: looks.past_fault(V, value, behind=[value])),
                    (errors.NoReader, lambda: readers.Reader(V, 1, value if value != 0 else 1, value, value))]:
                with self.assertRaises(error):
                    what()

    def test_deep_things(self):
        for value in ODD:
            for thing in [value, [value], (value,), (value, value), [(value, value)], (value, value, value), ("table", value, value),
                          ("table", [value], []), ("table", [{(0,): value}], [value]), ("pasts", [], [], value), ("pasts", [value], [], []),
                          ("pasts", [], [], [(value, value)]), ([("get", 0)], [value], [value])]:
                holds.unsure_fault(V, thing)
                likes.likeness_fault(V, (0,), (0,), thing)
                looks.past_fault(V, thing)


class Examples(unittest.TestCase):

    def test_examples(self):
        self.assertEqual(runs.steps(W, (1, 0), ("put", 0), []), [("read", 0, 1, (1, 0)), ("set", 1, 1, (1, 1)), ("set", 0, 0, (0, 1))])
        self.assertEqual(runs.share(K, [("lay", 0)]), {(1,): (1, 2), (2,): (1, 2)})
        self.assertEqual(holds.states(W), [(0, 0), (1, 0), (0, 1), (1, 1)])
        self.assertEqual(holds.contents(W), [[(0, 0), (0, 1)], [(1, 0), (1, 1)]])
        self.assertIs(looks.pastless(V), True)
        self.assertIs(looks.pastless(W), False)
        pairs = looks.past_paper(W)[3]
        self.assertIs(looks.past_fault(W, ("pasts", [("put", 1), ("put", 0)], [], pairs)), None)
        self.assertIs(looks.pastless(K), True)
        self.assertEqual(holds.most_layouts(W), 2)
        R = readers.Reader(W, 2, 0, {(0, ("put", 0)): 0, (0, ("put", 1)): 1, (0, ("get", 0)): 0, (1, ("put", 0)): 1, (1, ("put", 1)): 1,
                                     (1, ("get", 0)): 1}, [1])
        self.assertIs(R.reads([("put", 1), ("put", 0)]), True)
        self.assertIs(R.reads([("put", 0)]), False)


INTERFACE = {
    vaults: {"Vault": "cells, deeds", "vault_of": "shape", "begun": "vault, state"},
    runs: {"called": "vault, state, call, coins", "steps": "vault, state, call, coins", "outcomes": "vault, state, call",
           "led": "vault, row", "answered": "vault, row", "share": "vault, row"},
    holds: {"states": "vault, *, most=2000", "unsure": "vault, *, most=2000", "unsure_fault": "vault, thing",
            "contents": "vault, *, most=2000", "content": "vault, state, *, most=2000", "parted": "vault, one, other, *, most=2000",
            "most_layouts": "vault, *, most=2000"},
    likes: {"likeness": "vault, one, other, *, most=2000", "likeness_fault": "vault, one, other, thing"},
    looks: {"pastless": "vault, *, behind=None, most=2000", "past_paper": "vault, *, behind=None, most=2000",
            "past_fault": "vault, thing, *, behind=None"},
    readers: {"Reader": "vault, many, first, table, marks"},
}

METHODS = {
    vaults.Vault: {"sizes": "", "first": "", "names": "", "choices": "name", "rows": "name", "calls": "", "has_coins": "", "shape": "",
                   "__eq__": "other"},
    readers.Reader: {"many": "", "first": "", "after": "stand, call", "marked": "stand", "reads": "row"},
}


class Interface(unittest.TestCase):

    def test_functions_and_classes(self):
        for module, names in INTERFACE.items():
            for name, told in names.items():
                thing = getattr(module, name)
                self.assertEqual(thing.__module__, module.__name__)
                self.assertEqual(str(inspect.signature(thing)), f"({told})")

    def test_methods(self):
        for kind, names in METHODS.items():
            for name, told in names.items():
                self.assertEqual(str(inspect.signature(vars(kind)[name])), f"({', '.join(['self'] + told.split(', ') * bool(told))})")


if __name__ == "__main__":
    unittest.main()
