"""[43]: the desk."""

import random
import unittest

from pastless.coins import forever
from pastless.desk import Desk
from pastless.errors import (CoinsOut, HasCoins, NoCall, NoCut, NoLine, NoName, NoText, NothingDone, NotSure, NoVault, OtherSizes,
                             PastError, TooMany)
from pastless.holds import contents
from pastless.houses import House
from pastless.looks import pastless
from pastless.moments import moment_paper
from pastless.rowtexts import state_text
from pastless.texts import read_vault, vault_text
from pastless.vaults import Vault, begun
from odd import ODD
from slow import K, LOOSE, UNSURE, V, W, Maker, counter

WIDE = counter(4, 7)
WIDE_COINS = Vault([(9, 0)] * 4, [(name, 9, (("set", at, "x"),)) for at, name in enumerate("abcd")] + [("coin", 1, (("coin", "a"), ("answer", "a")))])


def line_of(vault):
    return vault_text(vault).replace("\n", "|")


def desk_with(**vaults):
    desk = Desk()
    for name, vault in vaults.items():
        desk.tell(f"open {name} {line_of(vault)}")
    return desk


def told_of(desk, names=("a", "b", "c")):
    """What can be asked of a desk without changing it, and the states of its houses."""
    found = [desk.tell("names"), desk.undoable()]
    for name in names:
        try:
            found.append(desk.tell(f"show {name}"))
            found.append(desk.tell(f"look {name}"))
            desk.tell("undo")
        except NoName:
            found.append(None)
    return found


class Lines(unittest.TestCase):

    def refused(self, desk, error, line):
        kept = told_of(desk)
        with self.assertRaises(error) as caught:
            desk.tell(line)
        self.assertEqual(told_of(desk), kept)
        return caught.exception

    def test_open_and_shut(self):
        desk = Desk()
        self.assertEqual((desk.tell("names"), desk.undoable()), ("none", 0))
        self.assertEqual(desk.tell("open b " + line_of(W)), "ok")
        self.assertEqual(desk.tell("open abcdefgh " + line_of(V)), "ok")
        self.assertEqual(desk.tell("open a " + line_of(K)), "ok")
        self.assertEqual(desk.tell("names"), "a abcdefgh b")
        self.assertEqual([desk.tell(f"show {name}") for name in ("a", "abcdefgh", "b")], [line_of(K), line_of(V), line_of(W)])
        self.assertEqual(desk.tell("shut abcdefgh"), "ok")
        self.assertEqual(desk.tell("names"), "a b")
        self.refused(desk, NoName, "shut abcdefgh")
        self.refused(desk, NoName, "look abcdefgh")
        # A house instead of another one begins anew.
        desk.tell("call b put 1 -")
        desk.tell("open b " + line_of(W))
        self.assertEqual(desk.tell("look b"), "0 0")
        for name in ("a", "b"):
            desk.tell(f"shut {name}")
        self.assertEqual(desk.tell("names"), "none")
        desk.tell("open none " + line_of(V))
        self.assertEqual(desk.tell("names"), "none")
        self.assertEqual(desk.tell("look none"), "0")

    def test_texts(self):
        desk = desk_with(a=W)
        for word in ("open", "turn"):
            for text, line in (("", 0), (" ", 0), (" " + line_of(V), 0), (line_of(V) + " ", 5), (line_of(V) + "|", 6), ("|" + line_of(V), 0), ("cell 3 0|deed put", 1),
                               ("cell 3 0|deed put 1|if 1", 3), ("none of it", 0), ("cell  3 0", 0), ("cell 2 0||deed a 1", 1)):
                self.assertEqual(self.refused(desk, NoText, f"{word} a {text}").line, line)
                # A name that no house has comes later.
                self.assertEqual(self.refused(desk, NoText, f"{word} b {text}").line, line)
            for text, part in (("deed a 1", "cells"), ("cell 3 3|deed a 1", "cells"), ("cell 3 0", "deeds"), ("cell 3 0|deed a 0", "deeds"),
                               ("cell 3 0|deed a 1|read a 1", "deeds")):
                self.assertEqual(self.refused(desk, NoVault, f"{word} a {text}").part, part)
                self.assertEqual(self.refused(desk, NoVault, f"{word} b {text}").part, part)
        self.refused(desk, NoName, "turn b " + line_of(W))
        self.refused(desk, OtherSizes, "turn a " + line_of(V))

    def test_calls(self):
        desk = desk_with(a=W, b=K, c=LOOSE)
        self.assertEqual([desk.tell(f"call a {word} -") for word in ("put 1", "get 0", "put 0", "get 0")], ["0", "1", "0", "0"])
        self.assertEqual(desk.tell("look a"), "0 1")
        self.assertEqual([desk.tell("call b lay 0 1"), desk.tell("look b"), desk.tell("call b lay 0 -"), desk.tell("look b")], ["1", "2", "0", "2"])
        # More falls than are needed: they are not told any more afterwards.
        self.assertEqual(desk.tell("call c toss 0 10111"), "0")
        self.assertEqual(desk.tell("look c"), "0 1")
        self.refused(desk, CoinsOut, "call c toss 0 -")
        self.assertEqual(desk.tell("call c toss 0 0"), "0")
        self.assertEqual(desk.tell("look c"), "0 0")
        for line in ("call a put 2 -", "call a get 1 -", "call a none 0 -", "call a put 999 -", "cut a put 2 0 -", "cut a none 0 0 -", "cut a none 0 999 1"):
            self.refused(desk, NoCall, line)
        for line in ("call d put 1 -", "call d none 9 -", "cut d put 1 0 -", "look d", "show d", "holds d", "pastless d", "moments d", "forever d", "shut d"):
            self.refused(desk, NoName, line)
        long = Desk()
        long.tell("open a " + line_of(Vault([(9, 0)], [("nine", 1, (("set", 0, 8), ("answer", 9)))])))
        self.assertEqual(long.tell("call a nine 0 " + "01" * 29000), "9")

    def test_cuts(self):
        for many, state in enumerate(("1 0", "1 0", "1 1", "0 1")):
            desk = desk_with(a=W)
            desk.tell("call a put 1 -")
            self.assertEqual(desk.tell(f"cut a put 0 {many} -"), "ok")
            self.assertEqual(desk.tell("look a"), state)
        self.refused(desk, NoCut, "cut a put 0 4 -")
        self.refused(desk, NoCut, "cut a put 0 999 111")
        desk = desk_with(a=LOOSE)
        self.refused(desk, CoinsOut, "cut a toss 0 0 -")
        self.refused(desk, CoinsOut, "cut a toss 0 999 -")
        self.refused(desk, NoCut, "cut a toss 0 2 1")
        self.assertEqual(desk.tell("cut a toss 0 0 11"), "ok")
        # The falls that were told ahead, of what was refused or was not needed, are not told any more.
        for line in ("cut a toss 0 2 111", "call a none 0 111", "cut a toss 9 0 111", "call a put 1 111"):
            try:
                desk.tell(line)
            except (NoCut, NoCall):
                pass
            self.refused(desk, CoinsOut, "call a toss 0 -")
        self.assertEqual(desk.tell("look a"), "1 0")

    def test_turn(self):
        desk = desk_with(a=W)
        desk.tell("call a put 1 -")
        desk.tell("call a put 0 -")
        new = Vault([(2, 0), (2, 0)], [("see", 1, (("read", "a", 1), ("answer", "a")))])
        self.assertEqual(desk.tell("turn a " + line_of(new)), "ok")
        self.assertEqual((desk.tell("show a"), desk.tell("look a"), desk.tell("call a see 0 -")), (line_of(new), "0 1", "1"))
        self.refused(desk, NoCall, "call a put 0 -")
        self.assertEqual(desk.tell("holds a"), "1")

    def test_asked(self):
        """As the functions say of the vault that the house runs now."""
        for vault in [V, W, K, LOOSE, UNSURE, WIDE, WIDE_COINS] + [Maker(seed).vault(coins=seed % 2 == 0) for seed in range(40)]:
            desk = desk_with(a=vault)
            for word, what in (("holds", lambda: str(len(contents(vault)))), ("pastless", lambda: "yes" if pastless(vault) else "no"),
                               ("moments", lambda: "yes" if moment_paper(vault)[0] == "table" else "no"), ("forever", lambda: "yes" if forever(vault) else "no"),
                               ("show", lambda: line_of(vault))):
                try:
                    self.assertEqual(desk.tell(f"{word} a"), what())
                except PastError as error:
                    with self.assertRaises(type(error)):
                        what()
        desk = desk_with(a=V, b=W, c=counter(2, 3))
        self.assertEqual([[desk.tell(f"{word} {name}") for word in ("holds", "pastless", "moments", "forever")] for name in "abc"],
                         [["3", "yes", "yes", "yes"], ["2", "no", "no", "no"], ["9", "yes", "no", "yes"]])
        desk = desk_with(a=UNSURE, b=LOOSE, c=WIDE, d=WIDE_COINS)
        for word in ("holds", "pastless", "forever"):
            self.refused(desk, NotSure, f"{word} a")
            self.assertEqual(self.refused(desk, TooMany, f"{word} c").most, 2000)
            self.refused(desk, TooMany, f"{word} d")
        for name, error in zip("abcd", (HasCoins, HasCoins, TooMany, HasCoins)):
            self.refused(desk, error, f"moments {name}")
        # It is the vault's own first state that it begins at, not the state of the house.
        desk = desk_with(a=begun(W, (1, 1)))
        desk.tell("call a put 0 -")
        self.assertEqual(desk.tell("show a"), line_of(begun(W, (1, 1))))

    def test_no_line(self):
        desk = desk_with(a=W)
        good = ["shut a", "call a put 1 -", "call a put 1 01", "cut a put 1 0 -", "look a", "show a", "holds a", "pastless a", "moments a", "forever a", "names", "undo"]
        wrong = ["", " ", "\n", "none", "none a", "open", "open a", "turn", "turn a", "open  " + line_of(W), "turn  a " + line_of(W), "open A " + line_of(W),
                 "open a1 " + line_of(W), "open abcdefghi " + line_of(W), " open a " + line_of(W), "Open a " + line_of(W), "open a " + vault_text(W), "turn a \n",
                 "turn a " + line_of(W) + "\n", "call a put -1 -", "call a put 01 -", "call a put 00 -", "call a put 1000 -", "call a put x -", "call a put 1.0 -",
                 "call a put 1 ", "call a put 1", "call a put 1 2", "call a put 1 01-", "call a put 1 --", "call a put 1 0 1", "call a put 1 0,1", "call a put 1 x",
                 "call a Put 1 -", "call a put1 1 -", "call a abcdefghi 1 -", "call A put 1 -", "call a  1 -", "call put 1 -", "cut a put 1 -", "cut a put 1 -1 -",
                 "cut a put 1 01 -", "cut a put 1 1000 -", "cut a put 1 0", "cut a put 1 0 ", "cut a put 1 x -", "cut a put 01 0 -", "cut a put 1 0 2", "cut a put 1 0 - -",
                 "look", "look ", "look a a", "shut", "names a", "names ", "undo a", "undo ", "undoable", "tell a", "back 1", "open\ta x", "call|a|put|1|-"]
        for line in good:
            wrong += [" " + line, line + " ", line.upper(), line + "\n", "\n" + line, line + " 1", line[:-1] + "A", line.capitalize()]
            if " " in line:
                wrong += [line.replace(" ", "  ", 1), line[:line.rindex(" ")]]
        for line in wrong + [value for value in ODD]:
            self.refused(desk, NoLine, line)
        for value in (None, 7, ["undo"], ("undo",), b"undo", V):
            self.refused(desk, NoLine, value)
        # It comes ahead of all other errors.
        self.refused(desk, NoLine, "look zz zz")
        self.refused(desk, NoLine, "call zz none 9 2")
        self.refused(desk, NoLine, "open A none")
        with self.assertRaises(NoLine):
            Desk().tell("undo 1")

    def test_two_desks(self):
        one, other = desk_with(a=W), desk_with(a=W)
        one.tell("call a put 1 -")
        self.assertEqual((other.tell("look a"), other.undoable(), one.undoable()), ("0 0", 2, 2))
        one.tell("shut a")
        self.assertEqual((one.tell("names"), other.tell("names")), ("none", "a"))
        other.tell("undo")
        other.tell("undo")
        self.assertEqual((other.tell("names"), one.undoable()), ("none", 3))


class Undo(unittest.TestCase):

    def test_nothing_done(self):
        desk = Desk()
        for line in ("names", "names"):
            desk.tell(line)
        for _ in range(2):
            with self.assertRaises(NothingDone):
                desk.tell("undo")
        desk.tell("open a " + line_of(V))
        self.assertEqual(desk.tell("undo"), "ok")
        self.assertEqual((desk.tell("names"), desk.undoable()), ("none", 0))
        with self.assertRaises(NothingDone):
            desk.tell("undo")

    def test_what_counts(self):
        """Only what was done can be taken back; what was refused or asked was not."""
        desk = desk_with(a=W)
        self.assertEqual(desk.undoable(), 1)
        for line in ("names", "show a", "holds a", "pastless a", "moments a", "forever a"):
            desk.tell(line)
            self.assertEqual(desk.undoable(), 1)
        for line in ("none", "call a none 0 -", "cut a put 0 9 -", "turn a none", "turn a " + line_of(V), "shut b", "look b", "open b none"):
            with self.assertRaises(PastError):
                desk.tell(line)
            self.assertEqual(desk.undoable(), 1)
        for many, line in enumerate(("look a", "call a put 1 -", "cut a put 0 1 -", "turn a " + line_of(W), "open b " + line_of(V), "open a " + line_of(V), "shut b")):
            desk.tell(line)
            self.assertEqual(desk.undoable(), many + 2)
        for many in range(8, 0, -1):
            self.assertEqual((desk.undoable(), desk.tell("undo")), (many, "ok"))
        self.assertEqual(desk.undoable(), 0)

    def test_each_kind(self):
        desk = desk_with(a=LOOSE)
        desk.tell("call a toss 0 1")
        for line in ("call a put 1 -", "call a toss 0 0", "cut a zero 0 1 -", "cut a toss 0 1 0", "look a", "turn a " + line_of(W), "shut a", "open a " + line_of(V),
                     "open b " + line_of(V)):
            kept = told_of(desk)
            desk.tell(line)
            self.assertEqual(desk.undoable(), 3)
            self.assertEqual(desk.tell("undo"), "ok")
            self.assertEqual(told_of(desk), kept)

    def test_a_house_that_was_replaced(self):
        desk = desk_with(a=W)
        desk.tell("call a put 1 -")
        desk.tell("open a " + line_of(V))
        desk.tell("call a put 2 -")
        desk.tell("shut a")
        desk.tell("open a " + line_of(K))
        told = []
        for _ in range(5):
            desk.tell("undo")
            told.append(told_of(desk, ("a",))[2:])
        self.assertEqual(told, [[None], [line_of(V), "2"], [line_of(V), "0"], [line_of(W), "1 0"], [line_of(W), "0 0"]])
        # It goes on from where it was.
        self.assertEqual(desk.tell("call a put 1 -"), "0")
        self.assertEqual(desk.tell("call a get 0 -"), "1")

    def test_falls_are_not_told_again(self):
        desk = desk_with(a=LOOSE)
        desk.tell("call a toss 0 1")
        desk.tell("undo")
        with self.assertRaises(CoinsOut):
            desk.tell("call a toss 0 -")
        desk.tell("cut a toss 0 1 1111")
        desk.tell("undo")
        with self.assertRaises(CoinsOut):
            desk.tell("cut a toss 0 0 -")
        self.assertEqual(desk.tell("look a"), "0 0")

    def test_undone_lines_can_be_done_anew(self):
        desk = desk_with(a=W)
        for _ in range(3):
            desk.tell("call a put 1 -")
            desk.tell("undo")
        self.assertEqual((desk.tell("look a"), desk.undoable()), ("0 0", 2))

    def test_down_to_nothing(self):
        """One line behind the other: each time all is as it was."""
        for seed in range(60):
            dice = random.Random(seed)
            desk, pictures = Desk(), []
            for _ in range(25):
                shown = told_of(desk)
                many = desk.undoable()
                try:
                    desk.tell(self.line(dice))
                except PastError:
                    self.assertEqual(told_of(desk), shown)
                if desk.undoable() > many:
                    pictures.append(shown)
                elif desk.undoable() < many:
                    pictures.pop()
                self.assertEqual(desk.undoable(), len(pictures))
            while pictures:
                self.assertEqual(desk.tell("undo"), "ok")
                self.assertEqual(told_of(desk), pictures.pop())
            with self.assertRaises(NothingDone):
                desk.tell("undo")

    def line(self, dice):
        name = dice.choice("aab")
        return dice.choice([
            f"open {name} {line_of(dice.choice([W, LOOSE, V]))}", f"shut {name}", f"turn {name} {line_of(dice.choice([W, LOOSE, V]))}", f"look {name}", "undo",
            f"call {name} {dice.choice(['put 1', 'put 0', 'get 0', 'toss 0'])} {dice.choice(['-', '1', '01'])}",
            f"call {name} {dice.choice(['put 1', 'put 0', 'get 0', 'toss 0'])} {dice.choice(['-', '1', '01'])}",
            f"cut {name} {dice.choice(['put 1', 'toss 0'])} {dice.randrange(4)} {dice.choice(['-', '1', '01'])}"])


class LikeHouses(unittest.TestCase):

    def test_a_house_beside(self):
        for seed in range(60):
            maker = Maker(seed)
            vault = maker.vault(coins=True)
            desk, house = desk_with(a=vault), House(read_vault(vault_text(vault)))
            for _ in range(12):
                name, argument = maker.dice.choice(vault.calls())
                falls = [maker.dice.randrange(2) for _ in range(maker.dice.randrange(5))]
                words = "".join(map(str, falls)) or "-"
                house.tell(falls)
                pick = maker.dice.randrange(3)
                many = maker.dice.randrange(5)
                what, line = [(lambda: str(house.call((name, argument))), f"call a {name} {argument} {words}"), (lambda: state_text(house.look()), "look a"),
                              (lambda: house.cut((name, argument), many) or "ok", f"cut a {name} {argument} {many} {words}")][pick]
                try:
                    told = what()
                except PastError as error:
                    with self.assertRaises(type(error)):
                        desk.tell(line)
                else:
                    self.assertEqual(desk.tell(line), told)
            self.assertEqual(desk.undoable(), 1 + len(house))
            self.assertEqual(desk.tell("look a"), state_text(house.state()))


if __name__ == "__main__":
    unittest.main()
