"""[35] and [36]: choices of one state of each content, and mended vaults."""

import itertools
import math
import random
import unittest

import slow
from pastless.choices import best_choice, tidied, weight
from pastless.errors import NoChoice, NoMost, NotSure, TooMany, TooWide
from pastless.holds import contents, most_layouts, states
from pastless.looks import pastless
from pastless.moments import moment_fault, moment_paper
from pastless.runs import answered, called, steps
from pastless.tables import table_vault
from pastless.vaults import Vault, begun
from pastless.wishes import unkept, wish_of
from odd import ODD, odd_but
from slow import K, LOOSE, UNSURE, V, W, Maker, counter
from slow_wishes import unlike

GET = ("get", 1, (("read", "a", 0), ("answer", "a")))
# Two cells of no use, of which each call leaves something else.
MESSY = Vault([(3, 0), (3, 0), (2, 0)], [("put", 3, (("read", "a", 0), ("set", 1, "a"), ("set", 2, ("=", "a", "x")), ("set", 0, "x"))), GET])


def slow_weights(vault, choices):
    which = {state: at for at, content in enumerate(slow.contents(vault)) for state in content}
    for choice in choices:
        found = [unlike(chosen, choice[which[slow.outcomes(vault, chosen, call)[-1][2]]]) for chosen in choice for call in vault.calls()]
        yield (max(found), sum(found))


def slow_weight(vault, choice):
    return next(slow_weights(vault, [choice]))


def all_choices(vault):
    return [list(choice) for choice in itertools.product(*slow.contents(vault))]


def wide(many, spare=1):
    """A vault of so many contents, and of so many times more states."""
    return Vault([(many // 2, 0), (2, 0), (spare, 0)], [("a", many // 2, (("set", 0, "x"),)), ("b", 2, (("set", 1, "x"),)), ("c", spare, (("set", 2, "x"),)),
                                                        ("get", 1, (("read", "a", 0), ("read", "b", 1), ("answer", ("+", "a", ("*", "b", 5))))),
                                                        ("see", 1, (("read", "a", 0), ("answer", "a")))])


def many_choices(content_sizes):
    """A vault of two cells in which the first one is told and the second one is not: it goes as far as the first one lets it."""
    rows = [("read", "a", 0), ("read", "b", 1)]
    for at, size in enumerate(content_sizes):
        rows.append(("if", ("=", "a", at), (("if", ("<", "b", size - 1), (("set", 1, ("+", "b", 1)),), (("set", 1, 0),)),), ()))
    return Vault([(len(content_sizes), 0), (max(content_sizes), 0)],
                 [("on", 1, tuple(rows)), ("go", len(content_sizes), (("set", 1, 0), ("set", 0, "x"))), GET])


class Weight(unittest.TestCase):

    def test_examples(self):
        self.assertEqual(weight(W, [(0, 0), (1, 0)]), (1, 2))
        self.assertEqual(weight(W, [(0, 0), (1, 1)]), (2, 4))
        self.assertEqual(weight(W, [(0, 1), (1, 1)]), (1, 2))
        self.assertEqual(weight(V, [(0,), (1,), (2,)]), (1, 6))
        self.assertEqual(weight(Vault([(1, 0)], [("none", 1, ())]), [(0,)]), (0, 0))
        # Each call counts, those that lead to the same content too; and each content, those with calls that stay.
        self.assertEqual(weight(counter(2, 2), contents(counter(2, 2))[0] + [one for rest in contents(counter(2, 2))[1:] for one in rest]), (2, 6))

    def test_coins(self):
        """The content behind a call is one, however the coins fall."""
        self.assertEqual(contents(LOOSE), [[(0, 0), (0, 1)], [(1, 0), (1, 1)]])
        self.assertEqual(weight(LOOSE, [(0, 1), (1, 0)]), (2, 4))
        self.assertEqual(weight(LOOSE, [(0, 1), (1, 1)]), (1, 2))
        self.assertEqual(contents(K), [[(0,)], [(1,), (2,)]])
        for choice in ([(0,), (1,)], [(0,), (2,)]):
            self.assertEqual(weight(K, choice), (1, 1))

    def test_like_the_slow_one(self):
        met = set()
        for seed in range(250):
            vault = Maker(seed).vault(coins=seed % 2 == 0)
            if not slow.is_sure(vault) or len(states(vault)) > 20:
                continue
            choices = all_choices(vault)
            for choice in choices if len(choices) < 12 else random.Random(seed).sample(choices, 12):
                self.assertEqual(weight(vault, choice), slow_weight(vault, choice))
            met.add((vault.has_coins(), len(choices) > 1))
        self.assertEqual(len(met), 4)

    def test_no_choice(self):
        good = [(0, 0), (1, 0)]
        wrong = [[], good[:1], good + [(1, 1)], good[::-1], [(1, 0), (1, 1)], [(0, 0), (0, 1)], tuple(good), {0: (0, 0)}, [(0, 0), [1, 0]],
                 [(0, 0), (True, 0)], [(False, 0), (1, 0)], [(0, 0), (1, False)], [(0, 0), (2, 0)], [(0, 0), (1, 0, 0)], [(0, 0), (1,)],
                 [(0, 0), None], [(0, 0), ("1", "0")], [(0, 0), (1, -1)], None, "", 0, good[0]]
        for what in (weight, tidied):
            for value in wrong + ODD + [[value, (1, 0)] for value in odd_but((0, 0))] + [[(0, 0), value] for value in ODD]:
                with self.assertRaises(NoChoice):
                    what(W, value)
            # A state of the vault that cannot come is of no content.
            with self.assertRaises(NoChoice):
                what(Vault([(3, 0)], [("one", 1, (("set", 0, 1), ("answer", 1))), GET]), [(0,), (2,)])
            what(W, good)

    def test_order_of_errors(self):
        for what in (weight, tidied):
            for value in ODD + [[(0,)]]:
                for most, error in ((0, NoMost), (None, NoMost), (True, NoMost), (1, TooMany), (2, NotSure), (2000, NotSure)):
                    with self.assertRaises(error):
                        what(UNSURE, value, most=most)
                for most, error in ((0, NoMost), (3, TooMany)):
                    with self.assertRaises(error):
                        what(W, value, most=most)
            for vault in (V, W, K, LOOSE):
                many = len(states(vault))
                what(vault, [content[-1] for content in contents(vault)], most=many)
                with self.assertRaises(TooMany) as caught:
                    what(vault, [content[-1] for content in contents(vault)], most=many - 1)
                self.assertEqual(caught.exception.most, many - 1)
        with self.assertRaises(TooWide):
            tidied(wide(18), None)
        with self.assertRaises(NoChoice):
            weight(wide(18), None)


class Best(unittest.TestCase):

    def test_examples(self):
        self.assertEqual(weight(W, best_choice(W)), (1, 2))
        self.assertEqual(best_choice(V), [(0,), (1,), (2,)])
        self.assertEqual(weight(MESSY, best_choice(MESSY)), (1, 6))
        self.assertEqual(best_choice(Vault([(1, 0)], [("none", 1, ())])), [(0,)])

    def test_the_greatest_comes_ahead_of_the_sum(self):
        """Five calls lead from the first content to the second one, one from there to the third one."""
        low, one, two, high = (0, 0, 0, 0), (0, 0, 0, 1), (0, 0, 1, 1), (1, 1, 1, 1)
        vault = lookup((low, one, two, high), {low: 0, one: 1, two: 1, high: 2},
                       [("go", 5, {low: one, one: one, two: two, high: high}), ("on", 1, {low: low, one: high, two: high, high: high}),
                        ("turn", 1, {low: low, one: two, two: one, high: high})])
        self.assertEqual(contents(vault), [[low], [one, two], [high]])
        self.assertEqual([slow_weight(vault, [low, middle, high]) for middle in (one, two)], [(3, 8), (2, 12)])
        self.assertEqual(best_choice(vault), [low, two, high])
        # Where another call changes three cells in any case, the sum alone is left to be made less.
        far = (1, 1, 1, 0)
        deeds = [("go", 5, {low: one, one: one, two: two, high: high, far: far}), ("on", 1, {low: low, one: high, two: high, high: high, far: far}),
                 ("turn", 1, {low: low, one: two, two: one, high: high, far: far}), ("far", 1, {low: far, one: one, two: two, high: high, far: far})]
        vault = lookup((low, one, two, high, far), {low: 0, one: 1, two: 1, high: 2, far: 3}, deeds)
        self.assertEqual(contents(vault), [[low], [one, two], [far], [high]])
        self.assertEqual([slow_weight(vault, [low, middle, far, high]) for middle in (one, two)], [(3, 11), (3, 15)])
        self.assertEqual(best_choice(vault), [low, one, far, high])

    def test_like_the_slow_one(self):
        met = set()
        for seed in range(300):
            vault = Maker(seed).vault(coins=seed % 2 == 0)
            if not slow.is_sure(vault) or len(states(vault)) > 16:
                continue
            choices = all_choices(vault)
            best = best_choice(vault)
            self.assertIn(best, choices)
            self.assertEqual(slow_weight(vault, best), min(slow_weights(vault, choices)))
            self.assertEqual(best, best_choice(vault))
            met.add((vault.has_coins(), len(choices) > 1))
        self.assertEqual(len(met), 4)

    def test_made_tables(self):
        """Vaults that go by a table made with dice, so that there are many choices, with all kinds of weights."""
        traps = 0
        for seed in range(120):
            vault = made_lookup(random.Random(seed))
            choices = all_choices(vault)
            weights = list(slow_weights(vault, choices))
            self.assertEqual(slow_weight(vault, best_choice(vault)), min(weights))
            # The least sum alone would be another choice.
            traps += min(weights)[1] > min(total for _, total in weights)
        self.assertGreater(traps, 0)

    def test_too_many(self):
        for vault in (V, W, K, LOOSE, MESSY, many_choices([3, 4, 1, 2]), many_choices([1, 1, 1]), many_choices([6])):
            choices = math.prod(len(content) for content in contents(vault))
            many = max(len(states(vault)), choices)
            best_choice(vault, most=many)
            with self.assertRaises(TooMany) as caught:
                best_choice(vault, most=many - 1)
            self.assertEqual(caught.exception.most, many - 1)
        self.assertEqual(math.prod(len(content) for content in contents(many_choices([3, 4, 1, 2]))), 24)
        self.assertEqual(len(states(many_choices([3, 4, 1, 2]))), 10)
        # Just 2000 choices, and some more: the bound that is left out.
        best_choice(many_choices([5, 5, 5, 4, 4]))
        with self.assertRaises(TooMany) as caught:
            best_choice(many_choices([3, 3, 3, 3, 5, 5]))
        self.assertEqual(caught.exception.most, 2000)
        best_choice(many_choices([3, 3, 3, 3, 5, 5]), most=2025)
        with self.assertRaises(TooMany):
            best_choice(many_choices([9] * 9), most=100000)
        self.assertEqual(len(best_choice(many_choices([2, 9, 9, 9, 9, 7]), most=100000)), 6)

    def test_order_of_errors(self):
        for value in odd_but(1, 7) + [100001]:
            for vault in (V, UNSURE):
                with self.assertRaises(NoMost):
                    best_choice(vault, most=value)
        for most, error in ((1, TooMany), (2, NotSure), (2000, NotSure)):
            with self.assertRaises(error):
                best_choice(UNSURE, most=most)
        # It would have more choices than states, if it were sure: but of one that is not, none are counted.
        rows = (("coin", "a"), ("if", "a", (("set", 1, "x"),), ()), ("answer", "a"))
        with self.assertRaises(NotSure):
            best_choice(Vault([(3, 0), (3, 0)], [("flip", 3, rows), ("put", 3, (("set", 0, "x"),))]), most=9)

    def test_many_contents(self):
        """Of 729 contents nine have two states."""
        sets = [(name, 9, (("read", "b", at), ("set", 3, 0), ("set", at, "x"), ("answer", "b"))) for at, name in enumerate("abc")]
        vault = Vault([(9, 0), (9, 0), (9, 0), (2, 0)], sets + [
            ("d", 2, (("read", "a", 0), ("read", "b", 1), ("if", ("*", ("=", "a", 0), ("=", "b", 0)), (("set", 3, "x"),), ())))])
        found = contents(vault)
        self.assertEqual(sorted(map(len, found)), [1] * 720 + [2] * 9)
        self.assertEqual(best_choice(vault), [content[0][:3] + (0,) for content in found])


def lookup(listed, tells, deeds):
    """A vault of four cells of 2 that begins at the first one of these states; each call leads on by the table of its deed.

    One more deed, "get", tells what is told of the state.
    """
    def rows(what):
        look = tuple(("read", reg, cell) for cell, reg in enumerate("abcd"))
        return look + tuple(("if", is_at(state), what(state), ()) for state in listed)

    def leading(goes):
        return rows(lambda state: tuple(("set", cell, goes[state][cell]) for cell in range(4)) + (("answer", 0),))
    made = [(name, choices, leading(goes)) for name, choices, goes in deeds]
    return Vault([(2, held) for held in listed[0]], made + [("get", 1, rows(lambda state: (("answer", tells[state]),)))])


def is_at(state):
    """An expression that is 1 in just this state, if the registers hold the cells."""
    a, b, c, d = [("=", reg, held) for reg, held in zip("abcd", state)]
    return ("*", a, ("*", b, ("*", c, d)))


def made_lookup(dice):
    listed = list(itertools.product((0, 1), repeat=4))
    dice.shuffle(listed)
    listed, many = listed[:9], dice.randrange(3, 5)
    tells = {state: at % many for at, state in enumerate(listed)}
    deeds = []
    for name in ("one", "two", "three"):
        kinds = [dice.randrange(many) for _ in range(many)]
        deeds.append((name, dice.choice([1, 1, 4]), {state: dice.choice([other for other in listed if tells[other] == kinds[tells[state]]])
                                                     for state in listed}))
    round_of = {state: dice.choice([other for other in listed if tells[other] == tells[state]]) for state in listed}
    return lookup(listed, tells, deeds + [("turn", 1, round_of)])


class Tidied(unittest.TestCase):

    def check(self, vault, choice):
        mended = tidied(vault, choice)
        self.assertEqual((mended.sizes(), mended.first(), mended.has_coins()), (vault.sizes(), choice[0], False))
        self.assertEqual(mended.calls(), vault.calls())
        self.assertEqual(wish_of(mended), wish_of(vault))
        self.assertIs(pastless(mended), True)
        self.assertEqual(sorted(states(mended)), sorted(choice))
        paper = moment_paper(mended)
        self.assertEqual(paper[0] == "table", weight(vault, choice)[0] <= 1)
        self.assertIs(moment_fault(mended, paper), None)
        self.assertEqual(most_layouts(mended), 1)
        self.assertEqual(weight(mended, [content[0] for content in contents(mended)]), weight(vault, choice))
        return mended

    def test_examples(self):
        for vault in (V, W, K, LOOSE, MESSY):
            for choice in all_choices(vault)[:20]:
                mended = self.check(vault, choice)
                self.assertEqual(mended, table_vault(wish_of(vault), vault.sizes(), choice))
                if not vault.has_coins():
                    self.assertIs(unkept(vault, wish_of(mended)), None)

    def test_facts(self):
        """It answers as the vault does, is pastless, and so at every moment if each call changes one cell at most."""
        met = set()
        for seed in range(200):
            vault = Maker(seed).vault(coins=seed % 2 == 0)
            if not slow.is_sure(vault) or len(states(vault)) > 16:
                continue
            choices = all_choices(vault)
            dice = random.Random(seed)
            for choice in [best_choice(vault)] + [dice.choice(choices) for _ in range(2)]:
                mended = self.check(vault, choice)
                met.add((vault.has_coins(), weight(vault, choice)[0] > 1))
                for _ in range(5):
                    row = [dice.choice(vault.calls()) for _ in range(6)]
                    self.assertEqual(answered(mended, row), [slow.last_answer(vault, slow.share(vault, []), row[:at + 1]).pop() for at in range(6)])
        self.assertEqual(len(met), 4)

    def test_steps(self):
        """[26]: each call changes the cells that are to change, each of them once."""
        choice = [content[-1] for content in contents(MESSY)]
        mended = tidied(MESSY, choice)
        for one in choice:
            for call in MESSY.calls():
                told = steps(mended, one, call, [])
                behind = called(mended, one, call, [])[1]
                ahead = [one] + [step[3] for step in told]
                self.assertEqual(sum(s != t for s, t in zip(ahead, ahead[1:])), unlike(one, behind))

    def test_wide(self):
        for many, spare in ((16, 1), (16, 3), (2, 3)):
            vault = wide(many, spare)
            self.assertEqual(len(contents(vault)), many)
            mended = tidied(vault, best_choice(vault, most=100000) if spare == 1 else [content[-1] for content in contents(vault)])
            self.assertIs(pastless(mended), True)
        for vault in (wide(18), wide(18, 2), counter(4, 5)):
            with self.assertRaises(TooWide):
                tidied(vault, [content[0] for content in contents(vault)])
        seventeen = counter_to(17)
        self.assertEqual(len(contents(seventeen)), 17)
        self.assertEqual(len(contents(counter_to(16))), 16)
        tidied(counter_to(16), [content[0] for content in contents(counter_to(16))])
        for value in ([content[0] for content in contents(seventeen)], None, []):
            with self.assertRaises(TooWide):
                tidied(seventeen, value)
            for most, error in ((0, NoMost), (16, TooMany), (17, TooWide)):
                with self.assertRaises(error):
                    tidied(seventeen, value, most=most)


def counter_to(many):
    """A vault that counts to a number, and answers 1 there; it has so many contents."""
    low, high = (many - 1) % 9, (many - 1) // 9
    last = ("if", ("*", ("=", "a", low), ("=", "b", high)), (("answer", 1),), ())
    return Vault([(9, 0), (9, 0)], [("on", 1, (("read", "a", 0), ("read", "b", 1), last, ("set", 0, ("+", "a", 1)),
                                             ("if", ("=", "a", 8), (("set", 0, 0), ("set", 1, ("+", "b", 1))), ())))])


class Layouts(unittest.TestCase):

    def test_fact(self):
        """[36]: of a vault without coins the greatest number of states of a content is 1 exactly if it is pastless."""
        met = set()
        for seed in range(200):
            vault = Maker(seed).vault()
            if len(states(vault)) <= 40:
                self.assertEqual(most_layouts(vault), max(len(content) for content in slow.contents(vault)))
                self.assertEqual(most_layouts(vault) == 1, pastless(vault))
                self.assertEqual(most_layouts(vault) == 1, len(all_choices(vault)) == 1 and best_choice(vault) == states(vault))
                met.add(pastless(vault))
        self.assertEqual(len(met), 2)
        # With coins it may be pastless all the same.
        self.assertEqual((most_layouts(K), pastless(K)), (2, True))


class Values(unittest.TestCase):

    def test_what_is_returned_is_new(self):
        told = best_choice(W)
        told.clear()
        self.assertEqual(len(best_choice(W)), 2)
        choice = [(0, 0), (1, 1)]
        mended = tidied(W, choice)
        choice[0] = None
        self.assertEqual((mended.first(), choice), ((0, 0), [None, (1, 1)]))
        self.assertEqual(begun(mended, (1, 1)).first(), (1, 1))


if __name__ == "__main__":
    unittest.main()
