"""[18] to [20]: what is known of the past, what tells it, and readers of what is given away."""

import unittest

import slow_pasts
from pastless.errors import HasCoins, NoMost, NoState, NotComing, OtherCalls, TooMany
from pastless.facts import known, known_held, told, told_fault, telling_reader
from pastless.holds import contents, states
from pastless.looks import pastless
from pastless.readers import Reader
from pastless.vaults import Vault, begun
from odd import ODD, odd_but
from slow import K, LOOSE, UNSURE, V, W, Maker, counter, damaged

PUT, ONE, GET = ("put", 0), ("put", 1), ("get", 0)
# Was 1 ever put? [44]
R = Reader(W, 2, 0, {(0, PUT): 0, (0, ONE): 1, (0, GET): 0, (1, PUT): 1, (1, ONE): 1, (1, GET): 1}, [1])
# One call that does nothing, and readers of so many stands, that go round.
STILL = Vault([(2, 0)], [("stay", 1, ())])


def rounds(many, marks=(0,)):
    return Reader(STILL, many, 0, {(stand, ("stay", 0)): (stand + 1) % many for stand in range(many)}, list(marks))


def reader_of(vault, many=1, marks=()):
    """A reader of any vault that stays where it is."""
    return Reader(vault, many, 0, {(stand, call): stand for stand in range(many) for call in vault.calls()}, list(marks))


class Known(unittest.TestCase):

    def test_example(self):
        self.assertEqual(known(W, R, (0, 1)), "yes")
        self.assertEqual(known_held(W, R, (0, 1)), "open")
        self.assertEqual(known(W, R, (0, 0)), "open")
        self.assertEqual(known(W, R, (1, 0)), "yes")
        self.assertEqual(known_held(W, R, (1, 0)), "yes")
        turned = Reader(W, 2, 0, {(stand, call): R.after(stand, call) for stand in (0, 1) for call in W.calls()}, [0])
        self.assertEqual(known(W, turned, (0, 1)), "no")
        self.assertEqual(known_held(W, turned, (0, 1)), "open")

    def test_readers_that_always_say_the_same(self):
        for state in states(W):
            for what in (known, known_held):
                self.assertEqual(what(W, reader_of(W), state), "no")
                self.assertEqual(what(W, reader_of(W, 1, [0]), state), "yes")
                self.assertEqual(what(W, reader_of(W, 2, [1]), state), "no")

    def test_like_the_slow_ones(self):
        words = set()
        for seed in range(120):
            maker = Maker(seed)
            vault = maker.vault()
            if len(states(vault)) > 12:
                continue
            reader = slow_pasts.made_reader(maker.dice, vault)
            for state in states(vault):
                one, other = known(vault, reader, state), known_held(vault, reader, state)
                self.assertEqual((one, other), (slow_pasts.known(vault, reader, state), slow_pasts.known_held(vault, reader, state)))
                words.add((one, other))
        self.assertEqual(words, {("yes", "yes"), ("no", "no"), ("open", "open"), ("yes", "open"), ("no", "open")})

    def test_held_over_all_that_are_like(self):
        # The reader says yes of odd numbers of calls; the cell tells the number, and no answer does.
        vault = Vault([(6, 0)], [("on", 1, (("read", "a", 0), ("set", 0, ("+", "a", 1))))])
        reader = Reader(vault, 2, 0, {(stand, ("on", 0)): 1 - stand for stand in (0, 1)}, [1])
        for state in states(vault):
            self.assertEqual(known(vault, reader, state), ("no", "yes")[state[0] % 2])
            self.assertEqual(known_held(vault, reader, state), "open")
        answering = Vault([(6, 0)], [("on", 1, (("read", "a", 0), ("set", 0, ("+", "a", 1)), ("answer", ("<", "a", 3))))])
        for state in states(vault):
            self.assertEqual(known_held(answering, reader, state), ("no", "yes")[state[0] % 2])
        parity = Vault([(6, 0)], [("on", 1, (("read", "a", 0), ("set", 0, ("+", "a", 1)),
                                             ("answer", ("+", ("=", "a", 1), ("+", ("=", "a", 3), ("=", "a", 5))))))])
        for state in states(vault):
            self.assertEqual(known_held(parity, reader, state), ("no", "yes")[state[0] % 2])

    def test_begun_elsewhere(self):
        self.assertEqual(known(W, R, (1, 1)), "yes")
        there = begun(W, (1, 1))
        self.assertEqual(known(there, R, (1, 1)), "open")
        self.assertEqual(known(there, R, (0, 1)), "open")
        self.assertEqual(known(W, R, (0, 1)), "yes")

    def test_order_of_errors(self):
        for what in (known, known_held):
            for vault in (K, LOOSE, UNSURE):
                for reader in (R, reader_of(vault)):
                    with self.assertRaises(HasCoins):
                        what(vault, reader, None, most=0)
            for value in odd_but((0, 0)) + [(0,), (2, 0), (0, True), [0, 0], None]:
                with self.assertRaises(OtherCalls):
                    what(W, reader_of(V), value, most=0)
                with self.assertRaises(NoState):
                    what(W, R, value, most=0)
            calm = Vault([(4, 0)], [("one", 1, (("set", 0, 1),)), ("two", 1, (("set", 0, 2),))])
            reader = reader_of(calm)
            for most, error in [(0, NoMost), (True, NoMost), (1, TooMany), (2, TooMany), (3, NotComing)]:
                with self.assertRaises(error):
                    what(calm, reader, (3,), most=most)

    def test_other_calls(self):
        def vault(*deeds):
            return Vault([(2, 0)], [(name, choices, ()) for name, choices in deeds])
        asked = vault(("a", 2), ("b", 1))
        for what in (lambda *given: known(*given, (0,)), lambda *given: known_held(*given, (0,)), told, lambda *given: told_fault(*given, None)):
            for other in (vault(("b", 1), ("a", 2)), vault(("a", 2)), vault(("a", 2), ("b", 2)), vault(("a", 2), ("c", 1)),
                          vault(("a", 1), ("b", 1)), vault(("a", 2), ("b", 1), ("c", 1))):
                with self.assertRaises(OtherCalls):
                    what(asked, reader_of(other))
            for same in (vault(("a", 2), ("b", 1)), Vault([(9, 0)], [("a", 2, (("coin", "a"),)), ("b", 1, (("answer", 1),))])):
                what(asked, reader_of(same))


class Most(unittest.TestCase):

    def test_stands(self):
        ask = [lambda *given, **named: known(*given, (0,), **named), lambda *given, **named: known_held(*given, (0,), **named), told]
        for what in ask:
            for many in (1999, 2000):
                what(STILL, rounds(many))
            for many in (2001, 3000):
                with self.assertRaises(TooMany) as caught:
                    what(STILL, rounds(many))
                self.assertEqual(caught.exception.most, 2000)
                what(STILL, rounds(many), most=many)
            with self.assertRaises(TooMany):
                what(STILL, rounds(5), most=4)
            what(STILL, rounds(5), most=5)
            # Only the stands that are come to count.
            what(STILL, reader_of(STILL, 5000), most=1)

    def test_states(self):
        for what in (lambda *given, **named: known(*given, (0,) * 2, **named), told):
            vault = counter(2, 5)
            what(vault, reader_of(vault), most=25)
            with self.assertRaises(TooMany):
                what(vault, reader_of(vault), most=24)
            # 25 states, and twice as many tuples.
            turning = Reader(vault, 2, 0, {(stand, ("inc", 0)): 1 - stand for stand in (0, 1)}, [1])
            what(vault, turning, most=50)
            for most in (25, 49):
                with self.assertRaises(TooMany) as caught:
                    what(vault, turning, most=most)
                self.assertEqual(caught.exception.most, most)


class Told(unittest.TestCase):

    def right(self, vault, reader):
        giving = slow_pasts.giving(vault, reader)
        thing = told(vault, reader)
        if not giving:
            self.assertIs(thing, None)
            return None
        past, word, listed, other, pairs = thing
        self.assertEqual(slow_pasts.end(vault, past), giving[0])
        self.assertEqual(word, slow_pasts.known(vault, reader, giving[0]))
        self.assertTrue(set(listed) >= set(slow_pasts.standings(vault, reader)))
        self.assertIs(reader.reads(other), word == "no")
        self.assertIn(slow_pasts.end(vault, other), slow_pasts.like(vault, giving[0]))
        self.assertIs(slow_pasts.told_fault(vault, reader, thing), None)
        self.assertIs(told_fault(vault, reader, thing), None)
        return thing

    def test_example(self):
        self.assertEqual(slow_pasts.end(W, self.right(W, R)[0]), (0, 1))
        self.assertIs(told(V, reader_of(V, 1, [0])), None)

    def test_like_the_slow_ones(self):
        words, faults = set(), set()
        for seed in range(500):
            maker = Maker(seed)
            vault = maker.vault()
            if len(states(vault)) > 10 or pastless(vault):
                continue
            for _ in range(3):
                reader = slow_pasts.made_reader(maker.dice, vault)
                thing = self.right(vault, reader)
                words.add(thing and thing[1])
                for _ in range(4 if thing else 0):
                    wrong = damaged(maker.dice, thing)
                    fault = told_fault(vault, reader, wrong)
                    self.assertEqual(fault, slow_pasts.told_fault(vault, reader, wrong))
                    faults.add(fault and fault[0])
        self.assertEqual(words, {None, "yes", "no"})
        self.assertTrue(faults >= {None, "first", "behind", "word", "other", "like"})

    def test_errors(self):
        for vault in (K, UNSURE):
            with self.assertRaises(HasCoins):
                told(vault, R, most=0)
        with self.assertRaises(OtherCalls):
            told(V, R, most=0)
        for value in odd_but(1, 7) + [100001]:
            with self.assertRaises(NoMost):
                told(W, R, most=value)


class Fault(unittest.TestCase):

    def setUp(self):
        self.thing = ([ONE, PUT], "yes", [((0, 0), 0), ((1, 0), 1), ((0, 1), 1), ((1, 1), 1), ((0, 0), 1)], [], [((0, 1), (0, 0))])

    def fault(self, **parts):
        names = ["past", "word", "standings", "other", "pairs"]
        self.assertIs(told_fault(W, R, self.thing), None)
        return told_fault(W, R, tuple([parts.get(name, part) for name, part in zip(names, self.thing)]))

    def test_errors_first(self):
        for value in ODD:
            for vault in (K, LOOSE):
                with self.assertRaises(HasCoins):
                    told_fault(vault, R, value)
            with self.assertRaises(OtherCalls):
                told_fault(V, R, value)

    def test_form(self):
        for value in ODD + [list(self.thing), self.thing[:4], self.thing + ([],)]:
            self.assertEqual(told_fault(W, R, value), ("form",))
        for value in ODD + [[((0, 0), 0)], [PUT, ("put", 2)], [PUT, ("put", True)], (PUT,)]:
            if value not in ([], [PUT]):
                self.assertEqual(self.fault(past=value), ("form",))
                self.assertEqual(self.fault(other=value), ("form",))
        for value in ODD + ["open", "YES", ["yes"], ("yes",)]:
            self.assertEqual(self.fault(word=value), ("form",))
        for value in ODD + [((0, 0), 0), (((0, 0), 0),), [((0, 0), 2)], [((0, 0), -1)], [((0, 0), False)], [((0, 2), 0)], [((0, True), 0)],
                            [[(0, 0), 0]], [((0, 0), 0, 0)], [((0, 0), None)], [((0,), 0)]]:
            if value != []:
                self.assertEqual(self.fault(standings=value), ("form",))
                if isinstance(value, list):
                    self.assertEqual(self.fault(standings=self.thing[2] + value), ("form",))
        for value in ODD + [((0, 0), (0, 1)), [((0, 0), (0, 2))], [[(0, 0), (0, 1)]], [((0, 0),)], (((0, 0), (0, 1)),)]:
            if value != []:
                self.assertEqual(self.fault(pairs=value), ("form",))

    def test_standings(self):
        listed = self.thing[2]
        self.assertEqual(self.fault(standings=[]), ("first",))
        self.assertEqual(self.fault(standings=listed[1:]), ("first",))
        self.assertEqual(self.fault(standings=listed[:1]), ("behind", 0, ONE))
        self.assertEqual(self.fault(standings=[((0, 0), 1), ((0, 0), 0), ((1, 0), 1)]), ("behind", 2, PUT))
        self.assertEqual(self.fault(standings=[((1, 0), 1), ((0, 0), 1), ((0, 0), 0), ((0, 1), 1)]), ("behind", 0, ONE))
        self.assertIs(self.fault(standings=listed[::-1] + listed), None)
        # More than is come to may be there.
        every = [(state, stand) for state in states(W) for stand in (0, 1)]
        self.assertEqual(self.fault(standings=every), ("word", every.index(((0, 1), 0))))
        self.assertEqual(self.fault(standings=every, past=[ONE, ONE]), ("word", every.index(((1, 1), 0))))

    def test_word(self):
        self.assertEqual(self.fault(word="no"), ("word", 2))
        self.assertEqual(self.fault(word="no", standings=self.thing[2][::-1]), ("word", 2))
        self.assertEqual(self.fault(past=[]), ("word", 0))
        self.assertEqual(self.fault(past=[], word="no"), ("word", 4))
        self.assertEqual(self.fault(past=[ONE], word="no"), ("word", 1))

    def test_other_and_like(self):
        self.assertEqual(self.fault(other=[ONE, PUT], pairs=[]), ("other",))
        self.assertEqual(self.fault(other=[ONE], pairs=[]), ("other",))
        self.assertEqual(self.fault(pairs=[]), ("like",))
        self.assertEqual(self.fault(pairs=[((1, 0), (1, 1))]), ("like",))
        self.assertIs(self.fault(other=[PUT, GET]), None)
        self.assertIs(self.fault(pairs=[((0, 0), (0, 1))] * 2), None)

    def test_pairs(self):
        self.assertEqual(self.fault(pairs=[((0, 1), (1, 0)), ((1, 0), (0, 0))]), ("pair", 0, ONE))
        self.assertEqual(self.fault(pairs=[((0, 1), (1, 0)), ((1, 0), (0, 0)), ((1, 1), (0, 0))]), ("answer", 0, GET))
        self.assertEqual(self.fault(pairs=[((0, 1), (0, 0)), ((1, 0), (1, 1)), ((1, 1), (0, 1))]), ("answer", 2, GET))
        # "put" keeps what was there beside it, so that two pairs must hold one another.
        slow_put = Vault([(2, 0), (2, 0), (2, 0)], [
            ("put", 2, (("read", "a", 0), ("read", "b", 1), ("set", 2, "b"), ("set", 1, "a"), ("set", 0, "x"))), W.shape()[1][1]])
        thing = told(slow_put, R)
        self.assertIs(told_fault(slow_put, R, thing), None)
        state = slow_pasts.end(slow_put, thing[0])
        other = slow_pasts.end(slow_put, thing[3])
        self.assertEqual(told_fault(slow_put, R, thing[:4] + ([(state, other)],)),
                         slow_pasts.pairs_fault(slow_put, [(state, other)]))


class TellingReader(unittest.TestCase):

    def test_facts(self):
        found = set()
        for vault in [V, W, counter(2, 3), STILL] + [Maker(seed).vault() for seed in range(150)]:
            reader = telling_reader(vault)
            self.assertEqual(reader is None, pastless(vault))
            self.assertEqual(reader is None, all(len(held) == 1 for held in contents(vault)))
            found.add(reader is None)
            if reader is not None:
                self.assertIsInstance(reader, Reader)
                thing = told(vault, reader, most=100000)
                self.assertIs(told_fault(vault, reader, thing), None)
        self.assertEqual(found, {True, False})

    def test_no_reader_tells_of_what_is_pastless(self):
        for seed in range(80):
            maker = Maker(seed)
            vault = maker.vault()
            if pastless(vault) and len(states(vault)) < 12:
                self.assertIs(told(vault, slow_pasts.made_reader(maker.dice, vault)), None)

    def test_equal_readers(self):
        one, other = telling_reader(W), telling_reader(Vault(*map(list, W.shape())))
        self.assertEqual((one.many(), one.first()), (other.many(), other.first()))
        for stand in range(one.many()):
            self.assertEqual(one.marked(stand), other.marked(stand))
            for call in W.calls():
                self.assertEqual(one.after(stand, call), other.after(stand, call))

    def test_errors(self):
        for vault in (K, LOOSE, UNSURE):
            with self.assertRaises(HasCoins):
                telling_reader(vault, most=0)
        for value in odd_but(1, 7) + [100001]:
            with self.assertRaises(NoMost):
                telling_reader(W, most=value)
        with self.assertRaises(TooMany):
            telling_reader(W, most=3)
        # By the states alone: the tuples of a state and a stand are as many, not four times so.
        self.assertIsInstance(telling_reader(W, most=4), Reader)
        with self.assertRaises(TooMany):
            telling_reader(counter(4, 7))


if __name__ == "__main__":
    unittest.main()
