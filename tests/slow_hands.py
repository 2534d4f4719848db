"""What DOC.md says in [31] to [33], worked out slowly and plainly; and vaults for two hands to try it on."""

import itertools

from pastless.vaults import Vault
from slow import Over, outcomes, value
from slow_pasts import after

# The one of [44], and one that does the same with a swap, again and again until it succeeds or nine times failed.
I = Vault([(3, 0)], [("inc", 1, (("read", "a", 0), ("set", 0, ("+", "a", 1)), ("answer", "a")))])
SWAP = Vault([(3, 0)], [("inc", 1, (("times", 9, (("read", "a", 0), ("swap", "b", 0, "a", ("+", "a", 1)), ("if", "b", (("answer", "a"),), ()))),
                                    ("answer", 9)))])


class Hand:
    """One call of one hand, done by going through the rows as they stand; it stops ahead of each step."""

    def __init__(self, vault, cells, call):
        self.sizes, self.cells, self.call, self.came = vault.sizes(), cells, call, []
        self.held = dict.fromkeys("abcd", 0)
        self.held["x"] = call[1]
        self.answer = None
        self.going = self.all_rows(vault.rows(call[0]))
        self.go()

    def go(self):
        """On to the place ahead of the next step, through the one at which it is."""
        if next(self.going, "over") == "over" and self.answer is None:
            self.answer = 0

    def all_rows(self, rows):
        try:
            yield from self.do(rows)
        except Over:
            pass

    def do(self, rows):
        for word, *parts in rows:
            if word in ("read", "set", "swap"):
                yield "ahead of a step"
                self.came.append(getattr(self, "do_" + word)(*parts))
            elif word == "keep":
                self.held[parts[0]] = value(parts[1], self.held)
            elif word == "if":
                yield from self.do(parts[1] if value(parts[0], self.held) else parts[2])
            elif word == "times":
                for _ in range(value(parts[0], self.held)):
                    yield from self.do(parts[1])
            else:
                self.answer = value(parts[0], self.held)
                raise Over()

    def do_read(self, reg, cell):
        self.held[reg] = self.cells[cell]
        return self.held[reg]

    def do_set(self, cell, e):
        self.cells[cell] = value(e, self.held) % self.sizes[cell]
        return None

    def do_swap(self, reg, cell, e, f):
        hit = self.cells[cell] == value(e, self.held)
        if hit:
            self.cells[cell] = value(f, self.held) % self.sizes[cell]
        self.held[reg] = int(hit)
        return self.held[reg]


class Tale:
    """What happens in a weaving, told anew from its beginning."""

    def __init__(self, vault, weaving):
        self.vault, self.cells, self.amid, self.told = vault, list(vault.first()), [None, None], []
        # For each call [the call, the hand, when it began, when it was answered or None, what it answered or None].
        self.made = []
        for at, (word, hand, *call) in enumerate(weaving):
            if word == "call":
                assert self.amid[hand] is None
                run = Hand(vault, self.cells, call[0])
                self.amid[hand] = (len(self.made), run)
                self.made.append([call[0], hand, at, None, None])
                self.told.append(("called", hand, call[0]))
            else:
                run = self.amid[hand][1]
                run.go()
            if run.answer is not None:
                self.made[self.amid[hand][0]][3:] = [at, run.answer]
                self.amid[hand] = None
                self.told.append(("answered", hand, run.answer))

    def next_items(self):
        """All items that can be made now."""
        return [item for hand in (0, 1) for item in
                ([("call", hand, call) for call in self.vault.calls()] if self.amid[hand] is None else [("step", hand)])]

    def orders(self):
        """All orders with the states to which they lead and the answers of their calls, by all lists of calls."""
        due = [at for at, one in enumerate(self.made) if one[3] is not None]
        late = [at for at, one in enumerate(self.made) if one[3] is None]
        for many in range(len(late) + 1):
            for more in itertools.combinations(late, many):
                for listed in itertools.permutations(due + list(more)):
                    answers = self.doing(listed)
                    if answers is not None:
                        yield (listed,) + answers

    def doing(self, listed):
        """The state behind the calls in this order and their answers; None if it is no order."""
        for one, other in itertools.combinations(listed, 2):
            if self.made[other][3] is not None and self.made[other][3] < self.made[one][2]:
                return None
        state, answers = self.vault.first(), {}
        for at in listed:
            call, answer = self.made[at][0], self.made[at][4]
            answers[at] = outcomes(self.vault, state, call)[0][1]
            if answer is not None and answer != answers[at]:
                return None
            state = after(self.vault, state, call)
        return (state, answers)

    def is_kept(self, rule):
        """Whether this weaving itself is as the rule says."""
        states = [state for _, state, _ in self.orders()]
        if rule == "moment" or rule == "rest" and self.amid == [None, None]:
            return tuple(self.cells) in states
        return len(states) > 0

    def scene(self):
        hands = tuple(None if one is None else (one[1].call, tuple(one[1].came)) for one in self.amid)
        ends = set()
        for _, state, answers in self.orders():
            ends.add((state,) + tuple(None if one is None else answers.get(one[0], "open") for one in self.amid))
        return (tuple(self.cells), hands, frozenset(ends))


def is_kept(vault, rule, weaving):
    return all(Tale(vault, weaving[:length]).is_kept(rule) for length in range(len(weaving) + 1))


def scenes(vault, bound, length=10 ** 9):
    """The scenes that can come in so many items, with a shortest weaving to each; None if they are more than the bound."""
    found, due = {Tale(vault, []).scene(): []}, [[]]
    for weaving in due:
        if len(weaving) == length:
            break
        for item in Tale(vault, weaving).next_items():
            longer = weaving + [item]
            scene = Tale(vault, longer).scene()
            if scene not in found:
                found[scene] = longer
                due.append(longer)
                if len(found) > bound:
                    return None
    return found


def all_weavings(vault, length):
    """All weavings of this length."""
    found = [[]]
    for _ in range(length):
        found = [weaving + [item] for weaving in found for item in Tale(vault, weaving).next_items()]
    return found


def made_weaving(dice, vault, length):
    weaving = []
    for _ in range(length):
        weaving.append(dice.choice(Tale(vault, weaving).next_items()))
    return weaving


def broken_length(vault, rule, bound):
    """The length of the shortest weaving that breaks the rule, up to a bound; None."""
    for length in range(bound + 1):
        for weaving in all_weavings(vault, length):
            if not Tale(vault, weaving).is_kept(rule):
                return length
    return None


def order_fault(vault, weaving, listed, cells):
    """Of a list of unlike numbers of calls."""
    tale = Tale(vault, weaving)
    for at, one in enumerate(tale.made):
        if one[3] is not None and at not in listed:
            return ("lack", at)
    for i, j in itertools.combinations(range(len(listed)), 2):
        over = tale.made[listed[j]][3]
        if over is not None and over < tale.made[listed[i]][2]:
            return ("time", i, j)
    state = vault.first()
    for place, at in enumerate(listed):
        call, answer = tale.made[at][0], tale.made[at][4]
        if answer is not None and outcomes(vault, state, call)[0][1] != answer:
            return ("answer", place)
        state = after(vault, state, call)
    return ("cells",) if cells and state != tuple(tale.cells) else None


def racy_vault(dice):
    """A vault whose calls have a few steps each, so that hands get in each other's way."""
    cells = [(dice.choice([2, 2, 3]), 0) for _ in range(dice.randrange(1, 3))]

    def step():
        cell, e = dice.randrange(len(cells)), dice.choice(["a", "b", "x", 0, 1, ("+", "a", 1), ("-", 1, "a")])
        return dice.choice([("read", dice.choice("ab"), cell), ("read", "a", cell), ("set", cell, e), ("swap", "b", cell, "a", e)])
    deeds = []
    for name in ("one", "two")[:dice.randrange(1, 3)]:
        rows = tuple(step() for _ in range(dice.randrange(1, 4)))
        if dice.random() < 0.3:
            rows = (rows[0], ("if", dice.choice(["a", "b", "x"]), rows[1:], ()))
        deeds.append((name, dice.randrange(1, 3), rows + (("answer", dice.choice(["a", "b", "a", 0])),)))
    return Vault(cells, deeds)
