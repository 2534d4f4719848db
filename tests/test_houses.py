"""[39] and [40]: houses, and what several looks tell."""

import copy
import random
import unittest

import slow_houses
import slow_pasts
from pastless.errors import (CoinsOut, HasCoins, NoBack, NoCall, NoCoins, NoCut, NoLook, NoMost, NotPlain, OtherCalls, OtherSizes,
                             PastError, TooMany)
from pastless.facts import known, known_held
from pastless.holds import contents, states
from pastless.houses import House
from pastless.looks import pastless
from pastless.readers import Reader
from pastless.runs import called, steps
from pastless.vaults import Vault, begun
from odd import ODD, odd_but
from slow import K, LOOSE, UNSURE, V, W, Maker, counter
from slow_pasts import made_reader

ONE, PUT, GET, TOSS, LAY = ("put", 1), ("put", 0), ("get", 0), ("toss", 0), ("lay", 0)
# It throws as many coins as it is told.
COINS = Vault([(9, 0), (2, 0)], [("coins", 5, (("set", 1, 1),) + tuple(
    ("if", ("<", many, "x"), (("coin", "a"), ("read", "b", 0), ("set", 0, ("+", "b", "a"))), ()) for many in range(4))
    + (("read", "b", 0), ("answer", "b")))])


def picture(house):
    return (house.vault(), house.state(), house.falls(), house.log(), house.answers(), len(house))


class Told(unittest.TestCase):

    def test_the_beginning(self):
        for vault in (V, W, K, LOOSE, begun(W, (1, 1))):
            self.assertEqual(picture(House(vault)), (vault, vault.first(), [], [], [], 0))

    def test_calls(self):
        house = House(W)
        self.assertEqual([house.call(call) for call in (ONE, GET, PUT, GET)], [0, 1, 0, 0])
        self.assertEqual(picture(house), (W, (0, 1), [], [("call", ONE, 0), ("call", GET, 1), ("call", PUT, 0), ("call", GET, 0)], [0, 1, 0, 0], 4))

    def test_falls(self):
        house = House(COINS)
        self.assertIs(house.tell([1, 0, 1, 1, 0, 1]), None)
        self.assertEqual(house.falls(), [1, 0, 1, 1, 0, 1])
        self.assertEqual(house.call(("coins", 0)), 0)
        self.assertEqual(house.falls(), [1, 0, 1, 1, 0, 1])
        self.assertEqual(house.call(("coins", 3)), 2)
        self.assertEqual(house.falls(), [1, 0, 1])
        self.assertEqual(house.call(("coins", 1)), 3)
        self.assertEqual(house.falls(), [0, 1])
        # What has not fallen is forgotten; what has fallen is not there again.
        house.tell([0, 0, 0, 1, 1])
        self.assertEqual(house.falls(), [0, 0, 0, 1, 1])
        self.assertEqual(house.call(("coins", 4)), 4)
        self.assertEqual(house.falls(), [1])
        house.tell([])
        self.assertEqual(house.falls(), [])
        self.assertEqual(len(house), 4)

    def test_many_falls(self):
        house = House(COINS)
        falls = [at % 3 % 2 for at in range(5000)]
        house.tell(falls)
        for _ in range(1000):
            house.call(("coins", 4))
        self.assertEqual(house.falls(), falls[4000:])
        self.assertEqual(len(house), 1000)

    def test_like_called(self):
        """A house goes on as the calls do one by one."""
        for seed in range(60):
            maker = Maker(seed)
            vault = maker.vault(coins=True)
            house, state = House(vault), vault.first()
            falls = [maker.dice.randrange(2) for _ in range(40)]
            house.tell(falls)
            for _ in range(8):
                call = maker.dice.choice(vault.calls())
                answer, behind = called(vault, state, call, falls[:4])
                self.assertEqual(house.call(call), answer)
                state = behind
                used = len(falls) - len(house.falls())
                self.assertLessEqual(used, 4)
                falls = falls[used:]
                self.assertEqual((house.state(), house.falls()), (state, falls))
                # With one fall less it could not be called.
                other = house.copy()
                other.back(1)
                other.tell(other.falls()[:max(0, used - 1)])
                if used > 0:
                    with self.assertRaises(CoinsOut):
                        other.call(call)

    def test_looks(self):
        house = House(W)
        self.assertEqual(house.look(), (0, 0))
        house.call(ONE)
        self.assertEqual(house.look(), (1, 0))
        self.assertEqual(house.log(), [("look", (0, 0)), ("call", ONE, 0), ("look", (1, 0))])
        self.assertEqual((house.state(), house.answers()), ((1, 0), [0]))

    def test_cuts(self):
        for many, state in enumerate([(1, 0), (1, 0), (1, 1), (0, 1)]):
            house = House(W)
            house.call(ONE)
            self.assertIs(house.cut(PUT, many), None)
            self.assertEqual(picture(house), (W, state, [], [("call", ONE, 0), ("cut", PUT, many)], [0], 2))
        # The call would have had these falls: they have fallen, also where it did not come to them.
        for many, state in enumerate([(0, 0), (0, 1), (0, 1), (1, 1), (1, 1), (1, 1), (1, 1)]):
            house = House(COINS)
            house.tell([1, 0, 0, 1])
            house.cut(("coins", 2), many)
            self.assertEqual((house.state(), house.falls()), (state, [0, 1]))
        house = House(LOOSE)
        house.tell([1, 1])
        house.cut(TOSS, 0)
        self.assertEqual((house.state(), house.falls()), ((0, 0), [1]))

    def test_cuts_like_steps(self):
        for seed in range(60):
            maker = Maker(seed)
            vault = maker.vault(coins=seed % 2 == 0)
            house = House(vault)
            for _ in range(8):
                call = maker.dice.choice(vault.calls())
                falls = [maker.dice.randrange(2) for _ in range(4)]
                done = steps(vault, house.state(), call, falls)
                house.tell(falls)
                with self.assertRaises(NoCut):
                    house.cut(call, len(done) + 1)
                many = maker.dice.randrange(len(done) + 1)
                stop = ([(0, 0, 0, house.state())] + done)[many][3]
                house.cut(call, many)
                self.assertEqual((house.state(), house.log()[-1]), (stop, ("cut", call, many)))

    def test_editions(self):
        new = Vault([(2, 1), (2, 1)], [("see", 1, (("read", "a", 1), ("answer", "a"))), ("toss", 1, LOOSE.rows("toss"))])
        house = House(LOOSE)
        house.tell([1, 1, 0, 0])
        house.call(TOSS)
        self.assertIs(house.edition(new), None)
        self.assertEqual(picture(house), (new, (0, 1), [1, 0, 0], [("call", TOSS, 0), ("edition", new)], [0], 2))
        self.assertEqual([house.call(call) for call in (("see", 0), TOSS, TOSS, ("see", 0))], [1, 0, 0, 0])
        with self.assertRaises(NoCall):
            house.call(("put", 0))
        house.edition(W)
        self.assertEqual(house.call(GET), 0)
        self.assertIs(house.vault(), W)
        for vault in (V, K, Vault([(2, 0), (3, 0)], list(W.shape()[1])), Vault([(2, 0)] * 3, list(W.shape()[1]))):
            kept = picture(house)
            with self.assertRaises(OtherSizes):
                house.edition(vault)
            self.assertEqual(picture(house), kept)


class Errors(unittest.TestCase):

    def refused(self, house, error, what, *given):
        kept = picture(house)
        with self.assertRaises(error):
            what(*given)
        self.assertEqual(picture(house), kept)

    def test_coins(self):
        house = House(LOOSE)
        house.tell([1])
        for value in [value for value in ODD if value != []] + [[2], [0, 2], [True], [0, False], ["0"], [[0]], (0, 1), "01", {0: 1}, None, [-1], [None]]:
            if not (value == [0] and type(value[0]) is int):
                self.refused(house, NoCoins, house.tell, value)

    def test_calls(self):
        house = House(LOOSE)
        for value in odd_but(PUT) + [("put", 2), ("put", True), ["put", 0], ("none", 0), ("toss", 1), "put", ("put",)]:
            self.refused(house, NoCall, house.call, value)
            self.refused(house, NoCall, house.cut, value, None)
        self.refused(house, CoinsOut, house.call, TOSS)
        house.tell([0])
        house.call(TOSS)
        self.refused(house, CoinsOut, house.call, TOSS)

    def test_coins_out(self):
        for many in range(1, 5):
            house = House(COINS)
            house.tell([1] * (many - 1))
            self.refused(house, CoinsOut, house.call, ("coins", many))
            # Of the whole call: also if it were cut ahead of the first coin; and ahead of NoCut.
            for steps_of in (0, 1, 2, 99, -1, None, True, []):
                self.refused(house, CoinsOut, house.cut, ("coins", many), steps_of)
            house.call(("coins", many - 1))
            self.assertEqual(house.falls(), [])

    def test_cuts(self):
        house = House(W)
        for value in odd_but(0, 1) + [4, -1, 10 ** 30, "1", 1.0]:
            self.refused(house, NoCut, house.cut, ONE, value)
        self.refused(house, NoCut, house.cut, GET, 2)
        house.cut(GET, 1)
        self.assertEqual(house.log(), [("cut", GET, 1)])

    def test_back(self):
        house = House(W)
        house.call(ONE)
        for value in odd_but(0, 1) + [2, -1, 10 ** 30, "1"]:
            self.refused(house, NoBack, house.back, value)
        house.back(1)
        self.refused(house, NoBack, house.back, 1)
        house.back(0)


class Back(unittest.TestCase):

    def test_none(self):
        house = House(LOOSE)
        house.tell([1, 0])
        house.call(TOSS)
        house.tell([1, 1, 1])
        kept = picture(house)
        self.assertIs(house.back(0), None)
        self.assertEqual(picture(house), kept)

    def test_falls(self):
        house = House(LOOSE)
        house.tell([1, 0, 0])
        house.call(TOSS)
        house.tell([1, 1])
        house.call(TOSS)
        house.tell([0])
        self.assertIs(house.back(1), None)
        self.assertEqual(picture(house), (LOOSE, (0, 1), [1, 1], [("call", TOSS, 0)], [0], 1))
        house.back(1)
        self.assertEqual(picture(house), (LOOSE, (0, 0), [1, 0, 0], [], [], 0))

    def test_what_was_told_behind_them(self):
        """Just ahead of the first item taken back [1] was told: what was told later is gone, also where it came ahead of another item."""
        house = House(LOOSE)
        house.tell([1])
        for item in range(3):
            house.look()
            house.tell([0] * item)
        house.back(2)
        self.assertEqual((house.falls(), len(house)), ([], 1))
        house.back(1)
        self.assertEqual((house.falls(), len(house)), ([1], 0))

    def go(self, dice, house):
        pick = dice.randrange(4)
        if pick == 0:
            house.call(dice.choice(LOOSE.calls()))
        elif pick == 1:
            house.cut(dice.choice(LOOSE.calls()), dice.randrange(2))
        elif pick == 2:
            house.look()
        else:
            house.edition(dice.choice([LOOSE, begun(LOOSE, (1, 1)), Vault([(2, 0), (2, 0)], list(LOOSE.shape()[1]) + [("more", 1, ())])]))

    def test_each_picture(self):
        """Whatever is taken back, all is as it was just ahead of the first item that is."""
        for seed in range(120):
            dice = random.Random(seed)
            house, pictures = House(LOOSE), []
            while len(pictures) < 9:
                if dice.random() < 0.6:
                    house.tell([dice.randrange(2) for _ in range(dice.randrange(5))])
                shown = picture(house)
                try:
                    self.go(dice, house)
                except CoinsOut:
                    continue
                pictures.append(shown)
            many = dice.randrange(1, 10)
            house.back(many)
            self.assertEqual(picture(house), pictures[9 - many])
            # It goes on from there, and that can be taken back, too.
            del pictures[9 - many:]
            for _ in range(2):
                house.tell([1, 0, 1, 0])
                pictures.append(picture(house))
                house.call(TOSS if TOSS in house.vault().calls() else GET)
            start = pictures[0]
            for _ in range(dice.randrange(3)):
                house.back(1)
                self.assertEqual(picture(house), pictures.pop())
            if len(house) > 0:
                house.back(len(house))
                self.assertEqual(picture(house), start)


class Copies(unittest.TestCase):

    def test_copy(self):
        house = House(LOOSE)
        house.tell([1, 0, 1])
        house.call(TOSS)
        house.look()
        other = house.copy()
        self.assertIsInstance(other, House)
        self.assertEqual(picture(other), picture(house))
        kept = picture(house)
        other.call(TOSS)
        other.tell([])
        other.edition(W)
        self.assertEqual(picture(house), kept)
        later = picture(other)
        house.back(2)
        house.call(ONE)
        self.assertEqual(picture(other), later)
        # The copy, too, can be taken back to the beginning.
        other.back(4)
        self.assertEqual(picture(other), (LOOSE, (0, 0), [1, 0, 1], [], [], 0))

    def test_tried(self):
        house = House(LOOSE)
        house.tell([1, 0, 1])
        house.call(TOSS)
        kept = picture(house)
        met = []

        def action(given):
            met.append(given)
            given.call(TOSS)
            given.tell([0, 0])
            given.look()
            given.edition(W)
            given.cut(ONE, 2)
            return [given.state(), given.falls(), len(given)]
        told = house.tried(action)
        self.assertEqual(told, [(0, 0), [0, 0], 5])
        self.assertEqual(picture(house), kept)
        self.assertIs(met[0], house)
        self.assertEqual(house.tried(action), told)
        marker = object()
        self.assertIs(house.tried(lambda given: marker), marker)
        self.assertIs(house.tried(lambda given: given.tell([])), None)
        self.assertEqual(picture(house), kept)

    def test_tried_takes_back(self):
        house = House(LOOSE)
        house.tell([1, 0])
        house.call(TOSS)
        house.call(ONE)
        kept = picture(house)
        self.assertEqual(house.tried(lambda given: (given.back(2), given.look(), given.falls())), (None, (0, 0), [1, 0]))
        self.assertEqual(picture(house), kept)
        # It can be taken back afterwards as it could ahead of it.
        house.back(1)
        self.assertEqual(house.state(), (0, 1))
        house.back(1)
        self.assertEqual(picture(house), (LOOSE, (0, 0), [1, 0], [], [], 0))

    def test_tried_with_errors(self):
        house = House(LOOSE)
        house.tell([1, 0])
        house.call(TOSS)
        kept = picture(house)
        own = KeyError("mine")

        def action(given):
            given.call(ONE)
            given.back(2)
            raise own
        with self.assertRaises(KeyError) as caught:
            house.tried(action)
        self.assertIs(caught.exception, own)
        self.assertEqual(picture(house), kept)
        for error, wrong in ((CoinsOut, lambda given: [given.call(TOSS) for _ in range(3)]), (NoBack, lambda given: (given.look(), given.back(9))),
                             (NoCall, lambda given: (given.tell([]), given.call(None))), (ZeroDivisionError, lambda given: given.call(ONE) // 0),
                             (SystemExit, lambda given: (given.look(), self.stop()))):
            with self.assertRaises(error):
                house.tried(wrong)
            self.assertEqual(picture(house), kept)

    def stop(self):
        raise SystemExit()

    def test_tried_within_tried(self):
        house = House(W)
        shown = []

        def inner(given):
            given.call(PUT)
            shown.append(given.log())
            raise NoCut()

        def outer(given):
            given.call(ONE)
            kept = picture(given)
            with self.assertRaises(NoCut):
                given.tried(inner)
            self.assertEqual(picture(given), kept)
            given.call(GET)
            return given.tried(lambda again: (again.back(2), len(again)))[1]
        self.assertEqual(house.tried(outer), 0)
        self.assertEqual(shown, [[("call", ONE, 0), ("call", PUT, 0)]])
        self.assertEqual(picture(house), (W, (0, 0), [], [], [], 0))

    def test_a_copy_made_within(self):
        house = House(W)

        def action(given):
            given.call(ONE)
            return given.copy()
        other = house.tried(action)
        self.assertEqual(picture(house), (W, (0, 0), [], [], [], 0))
        self.assertEqual(picture(other), (W, (1, 0), [], [("call", ONE, 0)], [0], 1))
        house.call(PUT)
        other.back(1)
        self.assertEqual((len(house), len(other)), (1, 0))

    def test_lists_may_be_changed(self):
        falls = [1, 0, 1]
        house = House(LOOSE)
        house.tell(falls)
        falls[0] = 7
        self.assertEqual(house.falls(), [1, 0, 1])
        house.call(TOSS)
        house.call(GET)
        kept = copy.deepcopy(picture(house)[1:])
        for what in (house.falls, house.log, house.answers):
            self.assertIsNot(what(), what())
            what().append(None)
            what().clear()
            self.assertEqual(picture(house)[1:], kept)
        log = house.log()
        log.clear()
        house.back(2)
        self.assertEqual(house.falls(), [1, 0, 1])


class Known(unittest.TestCase):

    def ever_one(self, vault=W):
        table = {(stand, call): stand for stand in (0, 1) for call in vault.calls()}
        table[(0, ONE)] = 1
        return Reader(vault, 2, 0, table, [1])

    def last_was_one(self):
        table = {(stand, call): stand for stand in (0, 1) for call in W.calls()}
        for stand in (0, 1):
            table[(stand, ONE)] = 1
            table[(stand, PUT)] = 0
        return Reader(W, 2, 0, table, [1])

    def counts(self, vault, many):
        """It says whether just so many calls were made, or more."""
        return Reader(vault, many + 1, 0, {(stand, call): min(stand + 1, many) for stand in range(many + 1) for call in vault.calls()}, [many])

    def test_no_look(self):
        house = House(W)
        for _ in range(2):
            with self.assertRaises(NoLook):
                house.known(self.ever_one())
            house.call(ONE)

    def test_one_look(self):
        """It is `known` of the state that was seen, whatever is done behind it."""
        for row in ([], [ONE], [ONE, PUT], [ONE, ONE], [PUT]):
            house = House(W)
            for call in row:
                house.call(call)
            state = house.look()
            for call in (None, GET, ONE, PUT):
                if call:
                    house.call(call)
                for reader in (self.ever_one(), self.last_was_one(), self.counts(W, 2)):
                    self.assertEqual(house.known(reader), known(W, reader, state))

    def test_more_looks(self):
        house = House(W)
        house.look()
        self.assertEqual(house.known(self.ever_one()), "open")
        # One call was made at least, for the state is another one; at the first look none needs to have been made.
        self.assertEqual(house.known(self.counts(W, 1)), "open")
        house.call(ONE)
        house.look()
        self.assertEqual(house.known(self.counts(W, 1)), "yes")
        self.assertEqual(house.known(self.counts(W, 2)), "open")
        self.assertEqual(house.known(self.ever_one()), "yes")
        house.call(PUT)
        house.look()
        self.assertEqual(house.known(self.counts(W, 2)), "yes")
        self.assertEqual(house.known(self.counts(W, 3)), "open")
        # The second look alone tells what this one does not.
        house.call(PUT)
        self.assertEqual(house.look(), (0, 0))
        self.assertEqual(house.known(self.ever_one()), "yes")
        self.assertEqual(known(W, self.ever_one(), (0, 0)), "open")
        self.assertEqual(house.known(self.counts(W, 3)), "yes")

    def test_the_same_state_again(self):
        """Between two looks at one state nothing needs to have been done."""
        house = House(V)
        reader = self.counts(V, 1)
        house.look()
        house.look()
        self.assertEqual(house.known(reader), "open")
        house.call(ONE)
        house.look()
        house.look()
        self.assertEqual(house.known(reader), "yes")
        self.assertEqual(house.known(self.counts(V, 2)), "open")

    def test_up_to_the_last_look(self):
        """What is done behind the last look is no matter, nor what was taken back."""
        house = House(W)
        house.look()
        house.call(ONE)
        house.look()
        told = house.known(self.ever_one())
        house.call(PUT)
        house.call(PUT)
        self.assertEqual(house.known(self.ever_one()), told)
        house.back(3)
        self.assertEqual(house.known(self.ever_one()), "open")
        house.back(2)
        with self.assertRaises(NoLook):
            house.known(self.ever_one())

    def test_like_the_slow_one(self):
        found = set()
        for seed in range(250):
            maker = Maker(seed)
            vault = maker.vault() if seed % 4 else W
            if len(states(vault)) > 20:
                continue
            house, looks = House(vault), []
            for _ in range(maker.dice.randrange(1, 5)):
                for _ in range(maker.dice.randrange(4)):
                    house.call(maker.dice.choice(vault.calls()))
                looks.append(house.look())
            for _ in range(3):
                reader = made_reader(maker.dice, vault)
                word = house.known(reader)
                self.assertEqual(word, slow_houses.known(vault, reader, looks))
                found.add((len(looks) > 1, word, len(looks) > 1 and word != slow_houses.known(vault, reader, looks[-1:])))
                if len(looks) == 1:
                    self.assertEqual(word, known(vault, reader, looks[0]))
        self.assertTrue(found >= {(many, word, False) for many in (False, True) for word in ("yes", "no", "open")}
                        | {(True, "yes", True)}, found)

    def test_pastless(self):
        """With more looks of a pastless vault it is what could be said by the contents at the looks alone."""
        met = 0
        for seed in range(300):
            maker = Maker(seed)
            vault = maker.vault()
            if len(states(vault)) > 20 or len(states(vault)) < 2:
                continue
            which = {state: at for at, content in enumerate(contents(vault)) for state in content}
            house, looks = House(vault), []
            for _ in range(3):
                for _ in range(maker.dice.randrange(3)):
                    house.call(maker.dice.choice(vault.calls()))
                looks.append(house.look())
            for _ in range(3):
                reader = made_reader(maker.dice, vault)
                if pastless(vault):
                    met += 1
                    self.assertEqual(house.known(reader), slow_houses.known_by_contents(vault, reader, looks, which))
                    self.assertEqual(known_held(vault, reader, looks[0]), slow_houses.known_by_contents(vault, reader, looks[:1], which))
        self.assertGreater(met, 50)

    def test_readers_of_other_vaults(self):
        """Only the calls count."""
        other = Vault([(5, 3)], [(name, choices, ()) for name, choices, _ in W.shape()[1]])
        house = House(W)
        house.call(ONE)
        house.look()
        self.assertEqual(house.known(self.ever_one(other)), house.known(self.ever_one()))

    def test_order_of_errors(self):
        lay = Vault([(3, 0)], [("lay", 1, ())])
        others = Reader(lay, 1, 0, {(0, LAY): 0}, [])
        for house, reader, most, error in self.cases(others):
            with self.assertRaises(error):
                house.known(reader, most=most)

    def cases(self, others):
        own = self.ever_one()
        for cut in (True, False):
            for coins in (True, False):
                for reader in (others, own):
                    for look in (False, True):
                        for most in (0, 1, 2000):
                            house = House(W)
                            if look:
                                house.look()
                            if cut:
                                house.cut(ONE, 0)
                                if coins:
                                    house.edition(LOOSE)
                            elif coins:
                                house = House(LOOSE)
                                if look:
                                    house.look()
                            error = (NotPlain if cut else HasCoins if coins else OtherCalls if reader is others else NoLook if not look
                                     else NoMost if most == 0 else TooMany)
                            if error is not TooMany or most == 1:
                                yield house, reader, most, error

    def test_not_plain(self):
        for change in (lambda house: house.cut(ONE, 0), lambda house: house.edition(W)):
            house = House(W)
            house.look()
            change(house)
            with self.assertRaises(NotPlain):
                house.known(self.ever_one())
            house.look()
            with self.assertRaises(NotPlain):
                house.known(self.ever_one(), most=0)
            # Taken back, it is in the log no longer.
            house.back(2)
            self.assertEqual(house.known(self.ever_one()), "open")
        calls = Vault([(2, 0), (2, 0)], [("get", 1, ()), ("put", 2, ())])
        house = House(W)
        house.look()
        with self.assertRaises(OtherCalls):
            house.known(Reader(calls, 1, 0, {(0, call): 0 for call in calls.calls()}, []))
        for vault in (K, LOOSE, UNSURE):
            house = House(vault)
            house.look()
            with self.assertRaises(HasCoins):
                house.known(Reader(vault, 1, 0, {(0, call): 0 for call in vault.calls()}, []))

    def test_most(self):
        for vault, many in ((W, 1), (W, 3), (V, 2), (counter(2, 5), 4)):
            reader = self.counts(vault, many)
            least = max(len(states(vault)), len(slow_pasts.standings(vault, reader)))
            for looks in (1, 2, 3):
                house = House(vault)
                for _ in range(looks):
                    house.look()
                self.assertEqual(house.known(reader, most=least), "open")
                with self.assertRaises(TooMany) as caught:
                    house.known(reader, most=least - 1)
                self.assertEqual(caught.exception.most, least - 1)
                for value in odd_but(1, 7) + [100001, -1]:
                    with self.assertRaises(NoMost):
                        house.known(reader, most=value)
        # The bound that is left out is 2000: tuples of the state and the stand count, too.
        ring = Vault([(5, 0)], [("on", 1, (("read", "a", 0), ("set", 0, ("+", "a", 1))))])
        for many, right in ((2000, True), (2005, False)):
            reader = Reader(ring, many, 0, {(stand, ("on", 0)): (stand + 1) % many for stand in range(many)}, [0])
            house = House(ring)
            house.look()
            house.look()
            if right:
                self.assertEqual(house.known(reader), "open")
            else:
                with self.assertRaises(TooMany):
                    house.known(reader)
                self.assertEqual(house.known(reader, most=2005), "open")
        house = House(counter(4, 7))
        house.look()
        with self.assertRaises(TooMany):
            house.known(self.counts(counter(4, 7), 1))

    def test_many_looks(self):
        house = House(W)
        dice = random.Random(5)
        for _ in range(2000):
            house.call(dice.choice(W.calls()))
            house.look()
        self.assertEqual(house.known(self.ever_one()), "yes")
        self.assertTrue(issubclass(NotPlain, PastError))


if __name__ == "__main__":
    unittest.main()
