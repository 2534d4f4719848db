"""[27] and [28]: layings, the trees that bar them, and crowds."""

import itertools
import unittest

import slow_wishes
from pastless.errors import NoSize, NoSizes, TooWide
from pastless.holds import contents
from pastless.layings import crowd, laid, laid_fault, least_cells
from pastless.moments import moment_paper
from pastless.tables import table_vault
from pastless.wishes import Wish, wish_of
from odd import ODD, odd_but
from slow import V, W, Maker, damaged
from slow_wishes import crowd_wish, made_wish, ring_wish, tied_wish

# All sizes whose sum is at most 5 more than their number, but those of 1.
SIZES = [sizes for many in range(1, 6) for sizes in itertools.product(range(2, 7), repeat=many) if sum(sizes) - many <= 5]
STAR = tied_wish(5, [(0, at) for at in range(1, 5)])
PATH = tied_wish(3, [(0, 1), (1, 2)])


class Laid(unittest.TestCase):

    def right(self, wish, sizes, known=None):
        kind, shown = laid(wish, sizes)
        self.assertEqual(kind == "laid", slow_wishes.has_laying(wish, sizes) if known is None else known)
        self.assertIs(laid_fault(wish, sizes, (kind, shown)), None)
        if kind == "laid":
            self.assertTrue(slow_wishes.is_laying(wish, shown))
        else:
            self.assertIs(slow_wishes.tree_fault(wish, sizes, shown), None)
        return (kind, shown)

    def test_ordinary(self):
        self.right(wish_of(V), (3,), True)
        self.right(wish_of(V), (2, 2), False)
        self.right(wish_of(W), (2,), True)
        self.right(wish_of(W), (1, 1), False)
        self.right(PATH, (2, 2), True)
        self.right(PATH, (3,), True)
        self.right(PATH, (2,), False)
        self.assertEqual(laid(Wish([("a", 1)], [{("a", 0): (0, 0)}]), (1,)), ("laid", [(0,)]))

    def test_all_sizes(self):
        for sizes in SIZES + [(1,), (1,) * 6, (1, 6), (6, 1, 1, 1, 1, 1), (2, 1, 2, 1, 2), (2, 2, 2, 2, 2, 1)]:
            for wish in (PATH, ring_wish(4), ring_wish(5), crowd_wish(4), STAR):
                self.right(wish, sizes)

    def test_made_wishes(self):
        kinds = set()
        for seed in range(120):
            dice = Maker(seed).dice
            wish = made_wish(dice)
            for sizes in dice.sample(SIZES, 3):
                kind, shown = self.right(wish, sizes)
                kinds.add((kind, shown[0] if kind == "barred" else None))
        self.assertEqual(kinds, {("laid", None), ("barred", "crowd"), ("barred", "place")})

    def test_eight_contents(self):
        cube = [(at, at | bit) for at in range(8) for bit in (1, 2, 4) if not at & bit]
        self.right(tied_wish(8, cube), (2, 2, 2), True)
        self.right(tied_wish(8, cube), (4, 2), True)
        self.right(tied_wish(8, cube), (4, 3), True)
        self.right(tied_wish(8, cube), (6,), False)
        self.right(tied_wish(8, cube + [(0, 3)]), (2,) * 5, False)
        self.right(ring_wish(8), (2,) * 5, True)
        self.right(ring_wish(7), (2,) * 5, False)
        self.right(ring_wish(8), (6,), False)
        self.right(tied_wish(8, [(at // 2, at) for at in range(1, 8)]), (2,) * 5, True)
        self.right(tied_wish(8, [(0, at) for at in range(1, 6)] + [(1, 6), (2, 7)]), (2,) * 5, True)
        self.right(tied_wish(8, [(0, at) for at in range(1, 8)]), (2,) * 5, False)
        for seed in range(20):
            dice = Maker(seed).dice
            ties = [(dice.randrange(at), at) for at in range(1, 8)] + [tuple(sorted(dice.sample(range(8), 2))) for _ in range(3)]
            wish = tied_wish(8, ties)
            for sizes in ((2,) * 5, (3, 2, 2, 2), (4, 3), (3, 3, 2)):
                kind, shown = laid(wish, sizes)
                self.assertIs(laid_fault(wish, sizes, (kind, shown)), None)
                if kind == "barred":
                    self.assertIs(slow_wishes.tree_fault(wish, sizes, shown), None)

    def test_errors(self):
        three = wish_of(V)
        for what in (laid, lambda wish, sizes: laid_fault(wish, sizes, None)):
            for value in odd_but() + [(0,), (10,), (2, 0), (True,), (2, True), [3], 3, (3, "3"), (1,) * 7, (3, None), "3", {3: 3}, (-1,)]:
                with self.assertRaises(NoSizes):
                    what(three, value)
                with self.assertRaises(NoSizes):
                    what(ring_wish(9), value)
            for sizes in ((7,), (9,), (6, 2), (4, 4), (2,) * 6, (3, 2, 2, 2, 2), (1, 7), (3, 3, 3), (1, 1, 1, 1, 1, 7)):
                with self.assertRaises(TooWide):
                    what(three, sizes)
            for sizes in ((6,), (5, 2), (4, 3), (2,) * 5, (1, 6), (1, 1, 1, 1, 1, 6), (1,)):
                what(three, sizes)
                what(ring_wish(8), sizes)
                for many in (9, 40):
                    with self.assertRaises(TooWide):
                        what(ring_wish(many), sizes)


class Fault(unittest.TestCase):

    def test_form(self):
        for value in ODD + [["laid", []], ("laid",), ("laid", [], []), ("laid", ()), ("laid", [(3,)]), ("laid", [(0,), (True,)]), ("laid", [[0]]),
                            ("laid", [0]), ("laid", None), ["barred", None], ("barred",), ("barred", None, None), ("Barred", None), ("laid", {})]:
            self.assertEqual(laid_fault(wish_of(V), (3,), value), ("form",))
        for value in ODD:
            if value != []:
                self.assertIn(laid_fault(wish_of(V), (3,), ("laid", value)), (("form",), ("many",)))
                self.assertIn(laid_fault(wish_of(V), (3,), ("laid", [(0,), (1,), value])), (("form",), ("same", 0, 2)))
            self.assertEqual(laid_fault(wish_of(V), (3,), ("barred", value)), ("tree", []))

    def test_layings(self):
        def fault(*states):
            return laid_fault(PATH, (3, 2), ("laid", list(states)))
        self.assertIs(fault((0, 0), (1, 0), (2, 0)), None)
        self.assertIs(fault((2, 1), (0, 1), (0, 0)), None)
        for states in ([], [(0, 0), (1, 0)], [(0, 0), (1, 0), (2, 0), (2, 1)], [(0, 0)] * 4):
            self.assertEqual(fault(*states), ("many",))
        self.assertEqual(fault((0, 0), (0, 0), (0, 0)), ("same", 0, 1))
        self.assertEqual(fault((0, 0), (1, 1), (0, 0)), ("same", 0, 2))
        self.assertEqual(fault((0, 0), (2, 1), (2, 1)), ("same", 1, 2))
        self.assertEqual(fault((0, 0), (1, 1), (2, 1)), ("apart", 0, 1))
        self.assertEqual(fault((0, 0), (1, 0), (2, 1)), ("apart", 1, 2))
        self.assertEqual(fault((0, 0), (1, 1), (2, 0)), ("apart", 0, 1))
        ring = ring_wish(4)
        self.assertEqual(laid_fault(ring, (2, 2), ("laid", [(0, 0), (0, 1), (1, 0), (1, 1)])), ("apart", 0, 3))
        self.assertIs(laid_fault(ring, (2, 2), ("laid", [(0, 0), (0, 1), (1, 1), (1, 0)])), None)

    def tree(self, tree, wish=None, sizes=(2, 2)):
        fault = laid_fault(wish or wish_of(V), sizes, ("barred", tree))
        self.assertEqual(fault, slow_wishes.tree_fault(wish or wish_of(V), sizes, tree))
        return fault and fault[1]

    def test_crowds(self):
        self.assertIs(self.tree(("crowd", 0), STAR, (4,)), None)
        self.assertIs(self.tree(("crowd", 0), STAR, (2, 3)), None)
        self.assertEqual(self.tree(("crowd", 0), STAR, (5,)), [])
        self.assertEqual(self.tree(("crowd", 1), STAR, (4,)), [])
        self.assertIs(self.tree(("crowd", 1), STAR, (1,)), None)
        for value in ODD + [5, -1, "0", (0,), None, True]:
            if value not in (0, 1, 7) or isinstance(value, bool):
                self.assertEqual(self.tree(("crowd", value), STAR, (1,)), [])
        self.assertIs(self.tree(("crowd", 1), STAR, (1,)), None)
        for tree in (["crowd", 1], ("crowd",), ("crowd", 1, 1), ("Crowd", 1)):
            self.assertEqual(self.tree(tree, STAR, (1,)), [])
        # It stands also below, about contents that are laid, and about such as are not.
        for content in range(3):
            place = ("place", 1, 0, [("crowd", content)])
            self.assertEqual(self.tree(place, wish_of(V), (2,)), None)
        self.assertEqual(self.tree(("place", 1, 0, [("crowd", 3)]), wish_of(V), (2,)), [0])

    def good(self):
        return ("place", 1, 0, [("place", 2, 0, [("taken", 1), ("apart", 1)]), ("place", 2, 1, [("apart", 0), ("taken", 0)])])

    def test_places(self):
        # The states beside (0, 0) are (1, 0) and (0, 1); those beside (0, 1) are (1, 1) and (0, 0).
        self.assertIs(self.tree(self.good()), None)
        branches = self.good()[3]
        self.assertEqual(self.tree(("place", 1, 0, branches[:1])), [])
        self.assertEqual(self.tree(("place", 1, 0, branches + branches[:1])), [])
        self.assertEqual(self.tree(("place", 1, 0, [])), [])
        self.assertEqual(self.tree(("place", 1, 0, tuple(branches))), [])
        self.assertEqual(self.tree(("place", 1, 0, None)), [])
        self.assertEqual(self.tree(["place", 1, 0, branches]), [])
        self.assertEqual(self.tree(("place", 1, branches)), [])
        self.assertEqual(self.tree(("place", 1, 0, branches, 0)), [])
        self.assertEqual(self.tree(("Place", 1, 0, branches)), [])
        for value in ODD + [0, 3, -1, True, "1", (1,), [1], None]:
            if value != 1 or isinstance(value, bool):
                self.assertEqual(self.tree(("place", value, 0, branches)), [])
            if value != 0 or isinstance(value, bool):
                self.assertEqual(self.tree(("place", 1, value, branches)), [])
        # 2 is not tied to 0, and 1 is not laid yet.
        self.assertEqual(self.tree(("place", 2, 0, [("crowd", 1)]), PATH, (2,)), [])
        self.assertEqual(self.tree(("place", 2, 1, [("crowd", 1)]), PATH, (2,)), [])
        self.assertIs(self.tree(("place", 1, 0, [("crowd", 1)]), PATH, (2,)), None)
        self.assertIs(self.tree(("place", 1, 0, [("place", 2, 1, [("taken", 0)])]), PATH, (2,)), None)
        self.assertEqual(self.tree(("place", 1, 0, [("place", 1, 0, [("taken", 0)])]), PATH, (2,)), [0])

    def test_branches(self):
        for at, other in itertools.product((0, 1), ODD + [3, -1, True, None]):
            for word in ("taken", "apart"):
                tree = self.good()
                right = tree[3][0][3][at]
                if isinstance(other, bool) or (word, other) != right:
                    tree[3][0][3][at] = (word, other)
                    self.assertEqual(self.tree(tree), [0, at])
        for path in ((0, 0), (0, 1), (1, 0), (1, 1)):
            for wrong in (("taken",), ("taken", 1, 1), ["taken", 1], ("Taken", 1), ("apart", 2), ("taken", 2), None, (), ("place", 0, 1, []), self.good()):
                tree = self.good()
                tree[3][path[0]][3][path[1]] = wrong
                self.assertEqual(self.tree(tree), list(path))
        # "taken" and "apart" are no trees.
        for word in ("taken", "apart"):
            self.assertEqual(self.tree((word, 0)), [])
            self.assertEqual(self.tree(("place", 1, 0, [(word, 0), self.good()[3][1]])), [0])

    def test_the_first_wrong_place(self):
        tree = self.good()
        tree[3][1][3][0] = None
        self.assertEqual(self.tree(tree), [1, 0])
        tree[3][0][3][1] = None
        self.assertEqual(self.tree(tree), [0, 1])
        tree[3][0][3].append(None)
        self.assertEqual(self.tree(tree), [0])
        tree[3].append(None)
        self.assertEqual(self.tree(tree), [])

    def test_apart(self):
        # 3 is tied to 2, but not to 0: what is far from 0 is not "apart".
        ring = tied_wish(5, [(0, 1), (1, 2), (2, 3), (3, 4), (0, 4)])
        kind, tree = laid(ring, (2, 2, 2))
        self.assertEqual((kind, self.tree(tree, ring, (2, 2, 2))), ("barred", None))
        below = [("place", 2, 1, [None, ("taken", 0), None]), None, None]
        # 2 may not be at (0, 0, 0), where 0 is.
        self.assertEqual(self.tree(("place", 1, 0, below), ring, (2, 2, 2)), [0, 0])
        self.assertEqual(self.tree(("place", 1, 0, [("place", 2, 1, [("apart", 0)] * 3), None, None]), ring, (2, 2, 2)), [0, 0])
        self.assertEqual(self.tree(("place", 1, 0, [("place", 2, 1, [("taken", 0)] * 3), None, None]), ring, (2, 2, 2)), [0, 1])
        # Whatever else a branch may say, at each place of the whole tree; also of contents that are far, but not tied.
        told = []
        for path, _ in slow_wishes.tree_places(ring, (2, 2, 2), {0: (0, 0, 0)}, tree, []):
            for branch in [(word, other) for word in ("apart", "taken") for other in range(5)] if path else []:
                changed = laid(ring, (2, 2, 2))[1]
                above = changed
                for at in path[:-1]:
                    above = above[3][at]
                if above[3][path[-1]][0] != "place":
                    above[3][path[-1]] = branch
                    told.append(self.tree(changed, ring, (2, 2, 2)))
                    self.assertIn(told[-1], (None, path))
        self.assertGreater(told.count(None), 10)

    def test_a_tree_where_a_branch_would_do(self):
        place = ("place", 1, 0, [("place", 2, 0, [("place", 3, 0, [("taken", 1)] * 1)])])
        self.assertEqual(self.tree(place, crowd_wish(4), (2,)), None)
        more = ("place", 1, 0, [("place", 2, 0, [("crowd", 0)])])
        self.assertEqual(self.tree(more, crowd_wish(4), (2,)), None)
        # Where all contents are laid, nothing is left to be a tree.
        three = ("place", 1, 0, [("place", 2, 0, [("place", 2, 0, [("taken", 1)])])])
        self.assertEqual(self.tree(three, wish_of(V), (2,)), [0, 0])

    def test_like_the_slow_one(self):
        found = set()
        for seed in range(150):
            dice = Maker(seed).dice
            wish = made_wish(dice)
            for sizes in dice.sample(SIZES, 2):
                thing = laid(wish, sizes)
                for _ in range(3 if thing[0] == "laid" or thing[1][0] == "place" else 0):
                    wrong = damaged(dice, thing)
                    fault = laid_fault(wish, sizes, wrong)
                    slow = slow_wishes.laying_fault(wish, wrong[1]) if wrong[0] == "laid" else slow_wishes.tree_fault(wish, sizes, wrong[1])
                    self.assertEqual(fault, slow)
                    found.add((wrong[0], fault and fault[0], len(fault[1]) if fault and fault[0] == "tree" else 0))
        self.assertTrue(found >= {("laid", None, 0), ("laid", "many", 0), ("laid", "same", 0), ("laid", "apart", 0), ("barred", None, 0),
                                  ("barred", "tree", 0), ("barred", "tree", 1), ("barred", "tree", 2)}, found)

    def test_deep(self):
        tree = ("taken", 0)
        for _ in range(59):
            tree = ("place", 1, 0, [tree, tree])
        self.assertEqual(laid_fault(wish_of(V), (2, 2), ("barred", tree)), ("tree", [0]))
        tree = ("taken", 0)
        for _ in range(20):
            tree = ("place", 1, 0, [tree])
        self.assertEqual(laid_fault(wish_of(V), (2,), ("barred", tree)), ("tree", [0]))


class Crowd(unittest.TestCase):

    def right(self, wish):
        found = crowd(wish)
        ties = wish.ties()
        self.assertEqual(found, sorted(found))
        self.assertEqual([pair for pair in itertools.combinations(found, 2) if pair not in ties], [])
        self.assertEqual(len(found), slow_wishes.crowd_size(wish))
        return len(found)

    def test_ordinary(self):
        self.assertEqual(crowd(wish_of(V)), [0, 1, 2])
        self.assertEqual(crowd(wish_of(W)), [0, 1])
        self.assertEqual(crowd(Wish([("a", 1)], [{("a", 0): (0, 0)}])), [0])
        self.assertEqual(self.right(STAR), 2)
        self.assertEqual(self.right(tied_wish(6, [(0, 1), (1, 2), (2, 3), (3, 4), (4, 5), (3, 5), (2, 5), (2, 4)])), 4)
        for many in range(1, 9):
            self.assertEqual(self.right(crowd_wish(many)), many)
        for many in range(4, 9):
            self.assertEqual(self.right(ring_wish(many)), 2)

    def test_many(self):
        self.assertEqual(crowd(crowd_wish(16)), list(range(16)))
        # Eight pairs that are not tied: one of each can be there.
        pairs = tied_wish(16, [(c, d) for c, d in itertools.combinations(range(16), 2) if c // 2 != d // 2])
        self.assertEqual(len(crowd(pairs)), 8)
        thirds = tied_wish(16, [(c, d) for c, d in itertools.combinations(range(16), 2) if c % 5 != d % 5])
        self.assertEqual(len(crowd(thirds)), 5)
        for many in (17, 40):
            with self.assertRaises(TooWide):
                crowd(ring_wish(many))

    def test_made_wishes(self):
        sizes = {self.right(made_wish(Maker(seed).dice, 9)) for seed in range(150)}
        self.assertTrue(sizes >= {1, 2, 3, 4})
        for seed in range(60):
            dice = Maker(seed).dice
            ties = [(dice.randrange(at), at) for at in range(1, 10)] + [tuple(sorted(dice.sample(range(10), 2))) for _ in range(dice.randrange(30))]
            self.right(tied_wish(10, ties))


class LeastCells(unittest.TestCase):

    def test_ordinary(self):
        self.assertIs(least_cells(wish_of(V), 2), None)
        self.assertEqual(least_cells(wish_of(V), 3), 1)
        for size in range(2, 7):
            self.assertEqual(least_cells(Wish([("a", 1)], [{("a", 0): (0, 0)}]), size), 1)
            self.assertEqual(least_cells(wish_of(W), size), 1)
            self.assertEqual(least_cells(crowd_wish(size), size), 1)
        self.assertEqual([least_cells(STAR, size) for size in range(2, 7)], [4, 2, None, 1, 1])
        self.assertEqual([least_cells(ring_wish(8), size) for size in range(2, 7)], [3, 2, None, None, None])
        self.assertEqual(least_cells(tied_wish(8, [(at, at + 1) for at in range(7)]), 2), 3)
        self.assertEqual(least_cells(tied_wish(7, [(0, at) for at in range(1, 6)] + [(1, 6)]), 2), 5)
        self.assertIs(least_cells(tied_wish(7, [(0, at) for at in range(1, 7)]), 2), None)

    def test_like_the_slow_one(self):
        found = set()
        for seed in range(60):
            dice = Maker(seed).dice
            many, size = dice.randrange(2, 6), dice.choice([2, 2, 3, 4, 5, 6])
            ties = [(dice.randrange(max(0, at - 2), at), at) for at in range(1, many)]
            wish = tied_wish(many, ties + [tuple(sorted(dice.sample(range(many), 2)))] * dice.randrange(2))
            can = [many for many in range(1, 6) if many * (size - 1) <= 5 and slow_wishes.has_laying(wish, (size,) * many)]
            self.assertEqual(least_cells(wish, size), min(can, default=None))
            found.add(min(can, default=None))
        self.assertTrue(found >= {None, 1, 2, 3})

    def test_errors(self):
        for value in odd_but() + [0, 1, 7, -2, True, "2", 2.0, (2,), [2], None]:
            with self.assertRaises(NoSize):
                least_cells(wish_of(V), value)
            with self.assertRaises(NoSize):
                least_cells(ring_wish(9), value)
        for size in range(2, 7):
            least_cells(ring_wish(8), size)
            for many in (9, 40):
                with self.assertRaises(TooWide):
                    least_cells(ring_wish(many), size)


class Facts(unittest.TestCase):

    def test_a_table_vault_is_pastless_at_every_moment(self):
        for seed in range(80):
            dice = Maker(seed).dice
            wish, sizes = made_wish(dice), dice.choice(SIZES)
            kind, shown = laid(wish, sizes)
            if kind == "laid":
                vault = table_vault(wish, sizes, shown)
                self.assertEqual(moment_paper(vault)[0], "table")
                self.assertEqual(contents(vault), [[layout] for layout in sorted(shown, key=lambda one: contents(vault).index([one]))])
                self.assertIs(laid_fault(wish_of(vault), sizes, ("laid", [held[0] for held in contents(vault)])), None)
            elif len(slow_wishes.all_states(sizes)) >= wish.many():
                # Whatever the layouts are, some call is seen amid.
                layouts = dice.sample(slow_wishes.all_states(sizes), wish.many())
                self.assertEqual(moment_paper(table_vault(wish, sizes, layouts))[0], "amid")

    def test_the_contents_are_a_laying(self):
        found = 0
        for seed in range(300):
            vault = Maker(seed).vault()
            sizes = vault.sizes()
            if sum(sizes) - len(sizes) <= 5 and len(contents(vault)) <= 8 and moment_paper(vault)[0] == "table":
                layouts = [held[0] for held in contents(vault)]
                self.assertIs(laid_fault(wish_of(vault), sizes, ("laid", layouts)), None)
                self.assertEqual(laid(wish_of(vault), sizes)[0], "laid")
                found += 1
        self.assertGreater(found, 50)

    def test_crowds_need_a_great_cell(self):
        for many in range(3, 7):
            for sizes in SIZES:
                kind, shown = laid(crowd_wish(many), sizes)
                self.assertEqual(kind == "laid", max(sizes) >= many)
                if kind == "laid":
                    cells = [[cell for cell in range(len(sizes)) if one[cell] != other[cell]] for one, other in itertools.combinations(shown, 2)]
                    self.assertEqual((len(cells[0]), len({tuple(pair) for pair in cells})), (1, 1))

    def test_rings(self):
        for many in range(3, 9):
            for cells in range(1, 6):
                self.assertEqual(laid(ring_wish(many), (2,) * cells)[0] == "laid", many % 2 == 0 and 2 ** cells >= many)


class New(unittest.TestCase):

    def test_what_is_returned_is_new(self):
        one, other = laid(ring_wish(5), (2, 2, 2)), laid(ring_wish(5), (2, 2, 2))
        self.assertEqual(one, other)
        lists = []

        def gather(tree):
            if tree[0] == "place":
                lists.append(tree[3])
                for branch in tree[3]:
                    gather(branch)
        gather(one[1])
        gather(other[1])
        self.assertEqual(len({id(part) for part in lists}), len(lists))
        for part in lists[:len(lists) // 2]:
            part.clear()
        self.assertEqual(laid(ring_wish(5), (2, 2, 2)), other)


if __name__ == "__main__":
    unittest.main()
