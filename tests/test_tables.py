"""[26]: vaults that keep a wish in layouts."""

import unittest

import slow_wishes
from pastless.errors import NoLayouts, NoSizes, TooWide
from pastless.looks import pastless
from pastless.runs import called, led, steps
from pastless.tables import table_vault
from pastless.vaults import Vault
from pastless.wishes import Wish, unkept, wish_of
from odd import odd_but
from slow import V, W, Maker
from slow_wishes import all_states, crowd_wish, made_wish, ring_wish, tied_wish

THREE = [(2,), (0,), (1,)]


class Right(unittest.TestCase):

    def right(self, wish, sizes, layouts):
        vault = table_vault(wish, sizes, layouts)
        self.assertEqual((vault.sizes(), vault.first()), (sizes, layouts[0]))
        self.assertEqual([(name, vault.choices(name)) for name in vault.names()], wish.deeds())
        self.assertIs(vault.has_coins(), False)
        self.assertIs(unkept(vault, wish), None)
        self.assertIs(pastless(vault), True)
        for content in range(wish.many()):
            for call in wish.calls():
                self.one_call(vault, wish, layouts, content, call)
        return vault

    def one_call(self, vault, wish, layouts, content, call):
        old, new = layouts[content], layouts[wish.after(content, call)]
        self.assertEqual(called(vault, old, call, []), (wish.answer(content, call), new))
        state, touched = old, []
        for kind, cell, value, after in steps(vault, old, call, []):
            if after == state:
                self.assertEqual(kind, "read")
            else:
                touched.append(cell)
                self.assertEqual((after, value), (state[:cell] + (new[cell],) + state[cell + 1:], new[cell] if kind == "set" else 1))
            state = after
        self.assertEqual(sorted(touched), [cell for cell in range(len(old)) if old[cell] != new[cell]])

    def test_ordinary(self):
        wish = wish_of(V)
        for sizes, layouts in [((3,), THREE), ((9,), [(8,), (0,), (4,)]), ((2, 2), [(0, 0), (1, 1), (0, 1)]), ((1, 1, 3), [(0, 0, 2), (0, 0, 1), (0, 0, 0)]),
                               ((2,) * 6, [(0, 0, 0, 0, 0, 0), (1, 1, 1, 1, 1, 1), (0, 0, 0, 0, 0, 1)])]:
            self.right(wish, sizes, layouts)
        vault = table_vault(wish, (2, 2), [(0, 0), (1, 1), (0, 1)])
        self.assertEqual(led(vault, [("put", 1), ("get", 0), ("put", 2)]), (0, 1))
        self.assertEqual(wish_of(table_vault(wish_of(W), (2,), [(1,), (0,)])), wish_of(W))

    def test_one_content(self):
        for sizes in ((1,), (1, 1, 1, 1, 1, 1), (9, 9)):
            vault = self.right(Wish([("a", 2)], [{("a", 0): (4, 0), ("a", 1): (9, 0)}]), sizes, [(0,) * len(sizes)])
            self.assertEqual(steps(vault, vault.first(), ("a", 1), []), [])

    def test_made_wishes(self):
        for seed in range(150):
            dice = Maker(seed).dice
            wish = made_wish(dice, 8)
            sizes = tuple([dice.randrange(1, 5) for _ in range(dice.randrange(1, 6))])
            if len(all_states(sizes)) >= wish.many():
                self.right(wish, sizes, dice.sample(all_states(sizes), wish.many()))

    def test_the_greatest(self):
        """The greatest wishes that are let keep the bounds of [8], which the vault itself looks after."""
        deeds = [(name, 9) for name in "abcdefgh"]
        calls = [(name, argument) for name, choices in deeds for argument in range(choices)]
        table = [{call: ((content + at) % 10, (3 * content + 5 * at + 1) % 16) for at, call in enumerate(calls)} for content in range(16)]
        table[0] = {call: (9, table[0][call][1]) for call in calls}
        wish = Wish(deeds, table)
        dice = Maker(1).dice
        line = [tuple(int(cell < content) for cell in range(6)) for content in range(7)]
        for sizes, layouts in [((9,) * 6, [(content % 9, content // 9) + (0,) * 4 for content in range(16)]),
                               ((9,) * 6, dice.sample([(a, b) * 3 for a in range(9) for b in range(9)], 16)),
                               ((2,) * 6, line + [tuple(1 - held for held in state) for state in line[1:6]] +
                                [(1, 0, 1, 0, 1, 0), (0, 1, 0, 1, 0, 1), (1, 0, 0, 0, 0, 1), (0, 1, 1, 1, 1, 0)]),
                               ((9,) * 6, [tuple((content + cell) % 9 if cell <= content % 6 else content // 2 for cell in range(6))
                                           for content in range(16)])]:
            self.assertEqual(len(set(layouts)), 16)
            vault = table_vault(wish, sizes, layouts)
            self.assertIs(unkept(vault, wish), None)
            for content in range(16):
                for call in calls[::5]:
                    self.one_call(vault, wish, layouts, content, call)

    def test_equal_calls(self):
        one, other = table_vault(wish_of(V), (3,), list(THREE)), table_vault(wish_of(V), (3,), list(THREE))
        self.assertTrue(one == other)


class Errors(unittest.TestCase):

    def test_sizes(self):
        for value in odd_but((0, 0, 0, 0, 0, 0)) + [(0,), (10,), (2, 0), (2, -1), (True,), (2, True), [3], 3, (3, "3"), (2,) * 7, (3, None), "3", {3: 3}]:
            with self.assertRaises(NoSizes):
                table_vault(wish_of(V), value, None)
            with self.assertRaises(NoSizes):
                table_vault(ring_wish(17), value, None)

    def test_too_wide(self):
        self.assertEqual(table_vault(ring_wish(16), (2,) * 4, all_states((2,) * 4)).sizes(), (2,) * 4)
        self.assertEqual(len(table_vault(crowd_wish(16), (4, 4), all_states((4, 4))).names()), 4)
        for wish in (ring_wish(17), ring_wish(40)):
            for layouts in (None, [(at,) for at in range(9)]):
                with self.assertRaises(TooWide):
                    table_vault(wish, (9,), layouts)

    def test_layouts(self):
        wish = wish_of(V)
        table_vault(wish, (3,), THREE)
        wrong = odd_but() + [tuple(THREE), THREE[:2], THREE + [(0,)], [(0,), (1,), (0,)], [(0,), (1,), (1,)], [(0,), (1,), (3,)], [(0,), (1,), (-1,)],
                             [(0,), (1,), (True,)], [(0,), (True,), (2,)], [(0,), [1], (2,)], [[0], [1], [2]], [0, 1, 2], [(0,), (1,), (2, 0)],
                             [(0,), (1,), ()], [(0,), (1,), None], [(0,), (1,), ("2",)], dict.fromkeys(THREE), [], [()] * 3, [None] * 3]
        wrong += [[(0,), (1,), value] for value in odd_but((2,))]
        for value in wrong:
            with self.assertRaises(NoLayouts):
                table_vault(wish, (3,), value)
        # More contents than there are states.
        for layouts in ([(0,), (1,)], [(0,), (1,), (2,)], [(0,), (1,), (1,)]):
            with self.assertRaises(NoLayouts):
                table_vault(wish, (2,), layouts)


class Facts(unittest.TestCase):

    def test_steps_that_change_the_cells(self):
        wish = tied_wish(5, [(0, 1), (1, 2), (2, 3), (3, 4), (4, 0), (0, 2)])
        layouts = Maker(3).dice.sample(all_states((2, 3, 2)), 5)
        vault = table_vault(wish, (2, 3, 2), layouts)
        for content, layout in enumerate(layouts):
            for call in wish.calls():
                made = [layout] + [step[3] for step in steps(vault, layout, call, [])]
                changes = sum(one != other for one, other in zip(made, made[1:]))
                self.assertEqual(changes, slow_wishes.unlike(layout, layouts[wish.after(content, call)]))

    def test_it_copies(self):
        layouts = list(THREE)
        vault = table_vault(wish_of(V), (3,), layouts)
        shape = vault.shape()
        layouts.clear()
        self.assertEqual(vault.shape(), shape)
        self.assertIsInstance(vault, Vault)


if __name__ == "__main__":
    unittest.main()
