"""[41]: texts of expressions and vaults."""

import itertools
import random
import unittest

from pastless.errors import NoExpression, NoText, NoVault
from pastless.texts import expression_text, read_expression, read_vault, vault_text
from pastless.vaults import Vault
from odd import ODD
from slow import K, LOOSE, UNSURE, V, W, Maker, counter

SIGNS = "+-*=<"
# One row of each form.
ALL = Vault([(4, 1), (9, 8)], [("all", 9, (("read", "a", 0), ("set", 1, ("*", "x", 2)), ("swap", "b", 1, ("-", "a", 1), 9), ("keep", "c", "d"), ("coin", "d"),
                                           ("if", ("=", "d", 1), (("answer", 3),), (("keep", "a", 0), ("coin", "a"))),
                                           ("times", ("<", 2, "c"), (("times", 2, (("keep", "b", "b"),)),)), ("if", 1, (), ()), ("times", 9, ()),
                                           ("answer", ("+", ("+", 1, "x"), "a")))), ("none", 1, ())])
ALL_TEXT = """cell 4 1
cell 9 8
deed all 9
read a 0
set 1 (x*2)
swap b 1 (a-1) 9
keep c d
coin d
if (d=1)
answer 3
else
keep a 0
coin a
end
times (2<c)
times 2
keep b b
end
end
if 1
else
end
times 9
end
answer ((1+x)+a)
deed none 1"""


def chain(deep):
    """An expression so deep."""
    e = 1
    for at in range(deep):
        e = (SIGNS[at % 5], e, "x") if at % 2 else (SIGNS[at % 5], "a", e)
    return e


def full(deep):
    return "b" if deep == 0 else ("+", full(deep - 1), full(deep - 1))


def nest(deep, word="if", row=("answer", 1)):
    """Rows in which a row is so deep."""
    rows = (row,)
    for at in range(deep - 1):
        rows = (("if", 1, rows, ()) if at % 2 else ("if", 0, (), rows),) if word == "if" else (("times", 1, rows),)
    return rows


def nest_text(deep):
    """The text of a vault in which a row "if" is so deep, with a row in it."""
    return "\n".join(["cell 2 0", "deed a 1"] + ["if 1"] * deep + ["answer 1"] + ["else", "end"] * deep)


class Expressions(unittest.TestCase):

    def test_examples(self):
        for e, text in [(0, "0"), (9, "9"), ("a", "a"), ("x", "x"), (("+", "a", ("*", "x", 2)), "(a+(x*2))"), (("-", 0, 1), "(0-1)"),
                        (("=", ("<", "b", "c"), "d"), "((b<c)=d)"), (("*", ("-", 9, "x"), ("+", 1, 2)), "((9-x)*(1+2))")]:
            self.assertEqual(expression_text(e), text)
            self.assertEqual(read_expression(text), e)

    def test_there_and_back(self):
        for e in [chain(deep) for deep in range(7)] + [full(deep) for deep in range(7)] + list("abcdx") + list(range(10)):
            self.assertEqual(read_expression(expression_text(e)), e)
        for sign, one, other in itertools.product(SIGNS, list("abcdx") + [0, 5, 9], list("ax") + [0, 3]):
            self.assertEqual(read_expression(expression_text((sign, one, other))), (sign, one, other))
        for seed in range(300):
            e = Maker(seed).expression(6)
            self.assertEqual(read_expression(expression_text(e)), e)

    def test_no_expression(self):
        wrong = [10, -1, True, False, None, "", "e", "ab", "A", "X", (), ("+",), ("+", 1), ("+", 1, 2, 3), ["+", 1, 2], ("%", 1, 2), ("++", 1, 2), ("", 1, 2),
                 ("+", 1, 10), ("+", "e", 1), ("+", True, 1), ("+", 1, None), ("+", ["+", 1, 1], 1), (1, "+", 2), {}, [], [1], 10 ** 30, "1", "(1+1)", " a",
                 (("+", 1, 1),), ("+", ("+", 1, -1), 1), V]
        for value in wrong + [chain(7), full(7), ("+", 1, chain(6)), ("+", full(6), 1)] + [value for value in ODD if value not in (0, 1, 7, "a")]:
            with self.assertRaises(NoExpression):
                expression_text(value)
        for value in (True, False):
            with self.assertRaises(NoExpression):
                expression_text(value)

    def test_no_text_of_one(self):
        wrong = ["", " ", "a ", " a", "ab", "aa", "e", "A", "10", "00", "-1", "+1", "01", "()", "(a)", "(a+)", "(+a)", "(a+b", "a+b", "a+b)", "(a+b))", "((a+b)",
                 "(a+b+c)", "(a b)", "(a+ b)", "( a+b)", "(a +b)", "(a+b) ", "(a%b)", "(a/b)", "(a++b)", "(a==b)", "(a<=b)", "(10+a)", "(a+10)", "(a+e)", "[a+b]",
                 "(a+b)(a+b)", "((a)+b)", "(a+(b))", "(a,b)", "a\n", "\na", "(a\n+b)", "(((((((", ")", "(", "(a", "(a+", "(-1)", "(0-)", "x x", "1.0", "0x1",
                 "(" * 60000, "((((((" * 9 + "a", "a" * 60000]
        for text in wrong + [value for value in ODD if value != "a"]:
            with self.assertRaises(NoExpression):
                read_expression(text)
        # Seven deep: what would be its text, if it were one.
        for deep in (7, 8, 60):
            with self.assertRaises(NoExpression):
                read_expression("(" * deep + "1" + "+a)" * deep)
            with self.assertRaises(NoExpression):
                read_expression("(a+" * deep + "1" + ")" * deep)
        self.assertEqual(expression_text(read_expression("(" * 6 + "1" + "+a)" * 6)), "(" * 6 + "1" + "+a)" * 6)
        for deep in (1, 3, 6):
            text = expression_text(full(deep))
            for at in random.Random(deep).sample(range(len(text)), min(len(text), 40)):
                for changed in (text[:at] + text[at + 1:], text[:at] + "(" + text[at:], text[:at] + "a" + text[at:], text[:at] + " " + text[at:]):
                    with self.assertRaises(NoExpression):
                        read_expression(changed)


class Vaults(unittest.TestCase):

    def test_examples(self):
        self.assertEqual(vault_text(V), "cell 3 0\ndeed put 3\nset 0 x\ndeed get 1\nread a 0\nanswer a")
        self.assertEqual(vault_text(ALL), ALL_TEXT)
        self.assertEqual(read_vault(ALL_TEXT), ALL)
        self.assertEqual(vault_text(Vault([(1, 0)], [("a", 1, ())])), "cell 1 0\ndeed a 1")

    def test_there_and_back(self):
        for vault in [V, W, K, LOOSE, UNSURE, ALL, counter(3, 4)] + [Maker(seed).vault(coins=seed % 2 == 0) for seed in range(250)]:
            text = vault_text(vault)
            self.assertEqual(read_vault(text), vault)
            self.assertEqual(vault_text(read_vault(text)), text)

    def test_great_ones(self):
        twos = tuple(("times", 1, (("times", "x", (("if", "a", nest(9), ()),)),)) for _ in range(2))
        for body in (nest(12), nest(12, row=("coin", "a")), twos, (("keep", "a", full(6)),) * 2000, nest(12) + (("read", "a", 5),) * 1988,
                     (("if", 1, (("set", 0, 1),) * 999, (("set", 1, chain(6)),) * 1000),)):
            vault = Vault([(9, 8), (1, 0), (2, 1), (9, 0), (5, 2), (3, 2)], [(name, 9, body) for name in ("a", "abcdefgh", "zz")] + [
                (name, 1, ()) for name in "qwert"])
            text = vault_text(vault)
            self.assertEqual(read_vault(text), vault)

    def wrong(self, text, line):
        with self.assertRaises(NoText) as caught:
            read_vault(text)
        self.assertEqual(caught.exception.line, line, text[:200] if isinstance(text, str) else None)

    def test_no_string(self):
        for value in ODD:
            if not isinstance(value, str):
                self.wrong(value, -1)
        self.wrong(["cell 3 0"], -1)
        self.wrong(V, -1)

    def test_each_line(self):
        """A line of no form in the place of each line of a text."""
        lines = ALL_TEXT.split("\n")
        for at in range(len(lines)):
            for line in ("", " ", "cel 1 0", "cell", "Cell 1 0", "cell 1", "cell 1 0 0", "deed", "deed b", "deed b 1 1", "row", lines[at] + " ", " " + lines[at],
                         lines[at].replace(" ", "  ") if " " in lines[at] else "ends", lines[at].upper(), lines[at] + " 1", "cell 1 -1", "-"):
                self.wrong("\n".join(lines[:at] + [line] + lines[at + 1:]), at)

    def test_forms(self):
        start = "cell 2 0\ndeed a 1\n"
        rows = ["read x 0", "read e 0", "read a", "read a a", "read 0 a", "read a -1", "read a 00", "read a 01", "read a 1000", "read a 0 0", "read", "read a +1",
                "set 0", "set a 0", "set 0 10", "set 0 -1", "set 0 (a+1", "set 0 (a + 1)", "set 0 a b", "set 01 a", "set 0 e", "set 1000 1", "set -1 1",
                "swap a 0 1", "swap x 0 1 1", "swap a 0 1 1 1", "swap a 0 e 1", "swap a 0 1 10", "swap 0 a 1 1", "swap a 0 01 1", "keep x 1", "keep a", "keep a 10",
                "keep 1 a", "keep a 1 1", "keep a ()", "coin", "coin x", "coin a a", "coin 0", "if", "if 10", "if 1 1", "if e", "if (1)", "times", "times 10",
                "times 1 1", "times -1", "answer", "answer 10", "answer e", "answer 1 1", "answer ", "else", "end", "else 1", "end 1", "unless 1", "on 1", "rounds 1",
                "cell 2 0", "cell 9 9", "deed", "deed A 1", "deed abcdefghi 1", "deed a1 1", "deed  1", "deed a 01", "deed a -1", "deed a 1000", "deed a", "deed a 1 ",
                "deed a_b 1", "deed a a", "", " ", "\t", "read\ta 0", "READ a 0", "answer 1|answer 2", "keep a " + expression_text(full(6)).replace("b", "(b+b)", 1)]
        for row in rows:
            self.wrong(start + row, 2)
            self.wrong(start + row + "\nanswer 1", 2)
            self.wrong(start + "answer 1\n" + row + "\n" + row, 3)
        for line in ("cell 01 0", "cell 1 00", "cell -1 0", "cell 1000 0", "cell 2 +0", "cell a 0", "cell 2 a", "cell 2", "cell 2 0 0", "cell 2 0 ", " cell 2 0",
                     "cell  2 0", "cell 2\t0", "cell 2 1.0", "cell () 0", "read a 0", "answer 0", "if 1", "else", "end", "coin a", "times 1", ""):
            self.wrong(line, 0)
            self.wrong("cell 2 0\n" + line + "\ndeed a 1", 1)
        self.wrong(start + "read a 0\n", 3)
        self.wrong(start, 2)
        self.wrong("\n" + start + "read a 0", 0)

    def test_blocks(self):
        start = ["cell 2 0", "deed a 1"]
        for lines, line in [(["if 1", "end"], 3), (["if 1", "else", "else"], 4), (["if 1", "else", "end", "end"], 5), (["if 1", "else", "end", "else"], 5),
                            (["times 1", "else"], 3), (["times 1", "end", "end"], 4), (["if 1", "deed b 1"], 3), (["if 1", "else", "deed b 1"], 4),
                            (["times 1", "deed b 1"], 3), (["times 1", "if 1", "end"], 4), (["times 1", "if 1", "else", "end", "else"], 6),
                            (["if 1", "times 1", "else"], 4), (["if 1", "cell 2 0"], 3), (["if 1", "times 1", "end", "end"], 5),
                            (["deed b 1", "end"], 3), (["deed b 1", "else"], 3), (["answer 1", "cell 2 0", "deed b 1"], 3)]:
            self.wrong("\n".join(start + lines), line)
            self.wrong("\n".join(start + lines + ["answer 1", "none"]), line)
        for lines in (["if 1"], ["times 1"], ["if 1", "else"], ["if 1", "answer 1"], ["times 1", "times 1", "end"], ["if 1", "if 1", "else", "end", "else"],
                      ["if 1", "else", "end", "times 0", "answer 1"], ["if 1"] * 12):
            self.wrong("\n".join(start + lines), 2 + len(lines))
        # The first line that is of no form comes ahead of lines that are lacking.
        self.wrong("\n".join(start + ["if 1", "none"]), 3)
        self.wrong("\n".join(start + ["if 1", ""]), 3)

    def test_deep_rows(self):
        """A row that is 12 deep is right, one that is 13 deep is not."""
        self.assertEqual(vault_text(read_vault(nest_text(11))), nest_text(11))
        self.wrong(nest_text(12), 2 + 12)
        self.wrong(nest_text(13), 2 + 12)
        self.wrong(nest_text(60), 2 + 12)
        lines = ["cell 2 0", "deed a 1"] + ["times 1"] * 12
        for row in ("answer 1", "if 1", "times 1", "coin a", "read a 0"):
            self.wrong("\n".join(lines + [row]), 14)
        # The twelfth one may be there, if nothing is in it; it is another matter that three "times" are too many.
        with self.assertRaises(NoVault) as caught:
            read_vault("\n".join(lines + ["end"] * 12))
        self.assertEqual(caught.exception.part, "deeds")
        empty = "\n".join(["cell 2 0", "deed a 1"] + ["if 1"] * 12 + ["else", "end"] * 12)
        self.assertEqual(vault_text(read_vault(empty)), empty)
        self.wrong("\n".join(["cell 2 0", "deed a 1"] + ["if 1"] * 12 + ["else", "answer 1"] + ["end"] + ["else", "end"] * 11), 2 + 13)

    def test_no_vault(self):
        deed = "deed a 1\nanswer 1"
        for text in ("cell 0 0\n" + deed, "cell 10 0\n" + deed, "cell 3 3\n" + deed, "cell 999 999\n" + deed, "cell 2 0\ncell 2 2\n" + deed,
                     "\n".join(["cell 1 0"] * 7) + "\n" + deed, deed, "deed a 1", "cell 0 0", "cell 9 9\n" * 3 + "deed a 0"):
            with self.assertRaises(NoVault) as caught:
                read_vault(text)
            self.assertEqual(caught.exception.part, "cells")
        start = "cell 2 0\n"
        times = ["times 1"] * 3 + ["end"] * 3
        for lines in ([], ["deed a 0"], ["deed a 10"], ["deed a 999"], ["deed a 1", "deed a 1"], ["deed a 1", "answer 1", "deed b 1", "deed a 2"],
                      [f"deed {name} 1" for name in "abcdefghi"], ["deed a 1", "read a 1"], ["deed a 1", "set 999 1"], ["deed a 1", "swap a 6 1 1"],
                      ["deed a 1"] + times, ["deed a 1", "times 1", "coin a", "end"], ["deed a 1", "times 1", "if 1", "else", "coin a", "end", "end"],
                      ["deed a 1"] + ["coin a"] * 5, ["deed a 1"] + ["answer 1"] * 2001, ["deed a 1"] + ["if 1", "answer 1", "else", "end"] * 1000 + ["answer 1"]):
            with self.assertRaises(NoVault) as caught:
                read_vault((start + "\n".join(lines)) if lines else "cell 2 0")
            self.assertEqual(caught.exception.part, "deeds")
        for lines in (["deed a 1"] + ["coin a"] * 4, ["deed a 1"] + ["answer 1"] * 2000, ["deed a 1"] + ["if 1", "answer 1", "else", "end"] * 1000,
                      ["deed a 9"], [f"deed {name} 1" for name in "abcdefgh"], ["deed a 1"] + ["times 1"] * 2 + ["end"] * 2):
            self.assertEqual(vault_text(read_vault(start + "\n".join(lines))), start + "\n".join(lines))
        # A line of no form comes ahead of what is no vault.
        self.wrong("cell 0 0\ndeed a 1\nnone", 2)

    def test_all_spoilt_texts(self):
        """Whatever is changed, it is read as just its own vault, or is told to be none."""
        found = set()
        for seed in range(40):
            dice = random.Random(seed)
            text = dice.choice([ALL_TEXT, vault_text(Maker(seed).vault(coins=True))])
            for _ in range(60):
                at = dice.randrange(len(text) + 1)
                changed = dice.choice([text[:at] + dice.choice(list("abx019( )+\n") + ["\nend", "\nelse"]) + text[at:], text[:at] + text[at + 1:],
                                       "\n".join(dice.sample(text.split("\n"), len(text.split("\n"))))])
                try:
                    self.assertEqual(vault_text(read_vault(changed)), changed)
                    found.add("vault")
                except NoText as error:
                    self.assertTrue(0 <= error.line <= changed.count("\n") + 1)
                    found.add("text")
                except NoVault as error:
                    found.add(error.part)
        self.assertEqual(found, {"vault", "text", "cells", "deeds"})


if __name__ == "__main__":
    unittest.main()
