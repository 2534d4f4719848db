"""[42]: texts of rows of calls, weavings and states."""

import random
import unittest

from pastless.errors import NoRow, NoState, NoText, NoWeaving
from pastless.hands import Hands
from pastless.orders import broken
from pastless.rowtexts import read_row, read_state, read_weaving, row_text, state_text, weaving_text
from odd import ODD, odd_but
from slow import V, W
from slow_hands import I

NO_CALLS = [["put", 0], ("put", -1), ("put", 9), ("put", True), ("put", "0"), ("put", None), ("", 0), ("Put", 0), ("put1", 0), ("pu t", 0), ("abcdefghi", 0),
            ("put\n", 0), (None, 0), ("put",), ("put", 0, 0), (0, "put"), "put 0", ("put", 10 ** 30), (("put", 0),), {}, None, [], ("p-t", 1)]
NO_LINES = ["put", "put ", " put 0", "put  0", "put 0 ", "put 0 0", "put 9", "put 10", "put 00", "put 01", "put -1", "put +1", "put a", "put x", "Put 0",
            "put1 0", "abcdefghi 0", " 0", "", " ", "0 put", "put,0", "put\t0", "put 1.0", "put 0x", "put 1000", "put_a 1"]


class Rows(unittest.TestCase):

    def test_there_and_back(self):
        self.assertEqual(row_text([("put", 1), ("get", 0)]), "put 1\nget 0")
        self.assertEqual(read_row("put 1\nget 0"), [("put", 1), ("get", 0)])
        self.assertEqual((row_text([]), read_row("")), ("", []))
        for many in range(9):
            self.assertEqual(row_text([("abcdefgh", many)]), f"abcdefgh {many}")
            self.assertEqual(read_row(f"abcdefgh {many}\nz 8"), [("abcdefgh", many), ("z", 8)])
        for seed in range(50):
            dice = random.Random(seed)
            row = [("".join(dice.choices("abcz", k=dice.randrange(1, 9))), dice.randrange(9)) for _ in range(dice.randrange(400))]
            self.assertEqual(read_row(row_text(row)), row)
        # A row may be longer, if it was returned.
        row = [("put", 1)] * 9000
        self.assertEqual(read_row(row_text(row)), row)

    def test_no_row(self):
        for value in ODD + [(("put", 0),), "put 0", {("put", 0): 0}]:
            if not isinstance(value, list):
                self.no_row(value, -1)
        for value in NO_CALLS + odd_but(("put", 0), ("none", 0)):
            self.no_row([value], 0)
            self.no_row([("put", 1), ("none", 8), value, value], 2)

    def no_row(self, row, index):
        with self.assertRaises(NoRow) as caught:
            row_text(row)
        self.assertEqual(caught.exception.index, index)

    def test_no_text(self):
        for value in ODD:
            if not isinstance(value, str):
                self.no_text(read_row, value, -1)
        for line in NO_LINES:
            if line:
                self.no_text(read_row, line, 0)
            self.no_text(read_row, line + "\nput 0", 0)
            self.no_text(read_row, "put 0\nget 8\n" + line + "\n" + line, 2)
        self.no_text(read_row, "put 0\n", 1)
        self.no_text(read_row, "\n", 0)
        self.no_text(read_row, "put 0\n\nput 0", 1)
        self.no_text(read_row, "x" * 60000, 0)

    def no_text(self, what, text, line):
        with self.assertRaises(NoText) as caught:
            what(text)
        self.assertEqual(caught.exception.line, line)


class Weavings(unittest.TestCase):

    def test_there_and_back(self):
        weaving = [("call", 0, ("inc", 0)), ("step", 0), ("call", 1, ("put", 8)), ("step", 1)]
        self.assertEqual(weaving_text(weaving), "call 0 inc 0\nstep 0\ncall 1 put 8\nstep 1")
        self.assertEqual(read_weaving("call 0 inc 0\nstep 0\ncall 1 put 8\nstep 1"), weaving)
        self.assertEqual((weaving_text([]), read_weaving("")), ("", []))
        told = broken(I, "right")
        self.assertEqual(read_weaving(weaving_text(told)), told)
        hands = Hands(W)
        for call in W.calls():
            hands.call(1, call)
            while hands.busy(1) is not None:
                hands.step(1)
        self.assertEqual(read_weaving(weaving_text(hands.weaving())), hands.weaving())

    def test_what_cannot_be_made(self):
        """It has a text all the same."""
        for weaving in ([("step", 1)], [("step", 0), ("step", 0)], [("call", 1, ("a", 8))] * 3, [("call", 0, ("step", 0)), ("step", 1), ("call", 0, ("call", 1))]):
            self.assertEqual(read_weaving(weaving_text(weaving)), weaving)

    def test_no_weaving(self):
        for value in ODD + [(("step", 0),), "step 0"]:
            if not isinstance(value, list):
                self.no_weaving(value, -1)
        wrong = [("call", 0, call) for call in NO_CALLS + odd_but(("put", 0), ("none", 0))]
        wrong += [(word, hand) + rest for hand in odd_but(0, 1) + [2, -1, "0"] for word, rest in (("call", (("put", 0),)), ("step", ()))]
        wrong += [("call", 0), ("step",), ("step", 0, ("put", 0)), ("call", 0, ("put", 0), 0), ["step", 0], ["call", 0, ("put", 0)], ("Step", 0), ("stop", 0),
                  ("called", 0, ("put", 0)), ("put", 0), ("call", 0, "put", 0), ("call", ("put", 0), 0), "step 0", None, (), []]
        for value in wrong:
            self.no_weaving([value], 0)
            self.no_weaving([("step", 0), ("call", 1, ("put", 8)), value, value], 2)

    def no_weaving(self, weaving, index):
        with self.assertRaises(NoWeaving) as caught:
            weaving_text(weaving)
        self.assertEqual(caught.exception.index, index)

    def test_no_text(self):
        for value in ODD:
            if not isinstance(value, str):
                Rows.no_text(self, read_weaving, value, -1)
        wrong = ["call 0 " + line for line in NO_LINES] + ["call 2 put 0", "call -1 put 0", "call 00 put 0", "call 01 put 0", "call a put 0", "call put 0", "call  put 0",
                 "call 0 put 0 0", "call 0", "call", "Call 0 put 0", "step", "step ", "step 2", "step 00", "step 01", "step -1", "step a", "step 0 0", "step 0 put 0",
                 "step  0", " step 0", "step 0 ", "Step 0", "stop 0", "put 0", "call 0  put 0", "call 0 put  0", "call 10 put 0", "step 10", " ", "step\t0"]
        for line in wrong + [""]:
            if line:
                Rows.no_text(self, read_weaving, line, 0)
            Rows.no_text(self, read_weaving, line + "\nstep 0", 0)
            Rows.no_text(self, read_weaving, "step 0\ncall 1 put 8\n" + line + "\n" + line, 2)
        Rows.no_text(self, read_weaving, "step 0\n", 1)
        Rows.no_text(self, read_weaving, "\nstep 0", 0)


class States(unittest.TestCase):

    def test_there_and_back(self):
        for state, text in (((0,), "0"), ((8,), "8"), ((1, 0), "1 0"), ((0, 1, 2, 3, 4, 5), "0 1 2 3 4 5"), ((8,) * 6, "8 8 8 8 8 8")):
            self.assertEqual(state_text(state), text)
            self.assertEqual(read_state(text), state)
        self.assertEqual(state_text(V.first()), "0")

    def test_no_state(self):
        wrong = [(), (9,), (-1,), (True,), (0, False), (0,) * 7, [0], "0", 0, None, ((0,),), ("0",), (0, None), (0, [1]), (10 ** 30,), (0, 9), {0: 0}]
        for value in wrong + odd_but((0,), (0, 0)) + [(value,) for value in odd_but(0, 1, 7)] + [(0, value) for value in odd_but(0, 1, 7)]:
            with self.assertRaises(NoState):
                state_text(value)

    def test_no_text(self):
        for value in ODD:
            if not isinstance(value, str):
                Rows.no_text(self, read_state, value, -1)
        for text in ("", " ", "9", "-1", "00", "01", "10", "0 ", " 0", "0  0", "0 9", "0 00", "a", "0 a", "0\n", "\n0", "0\n0", "0,0", "0 0 0 0 0 0 0", "(0)", "0\t0",
                     "0.0", "+0", "1000", "0 " * 30000):
            Rows.no_text(self, read_state, text, 0)


if __name__ == "__main__":
    unittest.main()
