"""What DOC.md says, worked out slowly and plainly, to compare the package with; and vaults to try it on."""

import copy
import itertools
import random
from fractions import Fraction

from pastless.vaults import Vault

# The vaults of [44].
V = Vault([(3, 0)], [("put", 3, (("set", 0, "x"),)), ("get", 1, (("read", "a", 0), ("answer", "a")))])
W = Vault([(2, 0), (2, 0)], [("put", 2, (("read", "a", 0), ("set", 1, "a"), ("set", 0, "x"))),
                             ("get", 1, (("read", "a", 0), ("answer", "a")))])
K = Vault([(3, 0)], [("lay", 1, (("read", "a", 0), ("if", "a", (("answer", 0),), ()), ("coin", "b"),
                                 ("set", 0, ("+", "b", 1)), ("answer", 1)))])
# The answer of "flip" tells how the coin fell: it is not sure.
UNSURE = Vault([(2, 0)], [("flip", 1, (("coin", "a"), ("set", 0, "a"))), ("get", 1, (("read", "a", 0), ("answer", "a")))])
# It is sure, but what the coin laid down stays, and can be overwritten: it is not pastless.
LOOSE = Vault([(2, 0), (2, 0)], [("toss", 1, (("coin", "a"), ("set", 1, "a"))), ("put", 2, (("set", 0, "x"),)),
                                 ("zero", 1, (("set", 1, 0),)), ("get", 1, (("read", "a", 0), ("answer", "a")))])


def counter(cells, size):
    """A vault that counts up in some cells, and answers 1 only when it comes round."""
    body = (("answer", 1),)
    for cell in range(cells):
        last = ("if", ("=", "a", size - 1), body, ())
        body = (("read", "a", cell), ("set", cell, ("+", "a", 1)), last)
    return Vault([(size, 0)] * cells, [("inc", 1, body)])


def value(e, held):
    if isinstance(e, int):
        return e
    if isinstance(e, str):
        return held[e]
    left, right = value(e[1], held), value(e[2], held)
    return {"+": (left + right) % 10, "-": (left - right) % 10, "*": left * right % 10,
            "=": int(left == right), "<": int(left < right)}[e[0]]


class Over(Exception):
    pass


class Slow:
    """One call, done by going through the rows as they stand."""

    def __init__(self, vault, state, call, coins):
        self.sizes, self.cells, self.coins, self.used, self.steps = vault.sizes(), list(state), coins, 0, []
        self.held = dict.fromkeys("abcd", 0)
        self.held["x"] = call[1]
        self.answer = 0
        try:
            self.do(vault.rows(call[0]))
        except Over:
            pass

    def step(self, kind, cell, got):
        self.steps.append((kind, cell, got, tuple(self.cells)))

    def do(self, rows):
        for word, *parts in rows:
            getattr(self, "do_" + word)(*parts)

    def do_read(self, reg, cell):
        self.held[reg] = self.cells[cell]
        self.step("read", cell, self.held[reg])

    def do_set(self, cell, e):
        self.cells[cell] = value(e, self.held) % self.sizes[cell]
        self.step("set", cell, self.cells[cell])

    def do_swap(self, reg, cell, e, f):
        old, new = value(e, self.held), value(f, self.held)
        hit = self.cells[cell] == old
        if hit:
            self.cells[cell] = new % self.sizes[cell]
        self.held[reg] = int(hit)
        self.step("swap", cell, self.held[reg])

    def do_keep(self, reg, e):
        self.held[reg] = value(e, self.held)

    def do_coin(self, reg):
        self.held[reg] = self.coins[self.used]
        self.used += 1

    def do_if(self, e, rows, others):
        self.do(rows if value(e, self.held) else others)

    def do_times(self, e, rows):
        for _ in range(value(e, self.held)):
            self.do(rows)

    def do_answer(self, e):
        self.answer = value(e, self.held)
        raise Over()


# The outcomes that were worked out already, by vaults: each is kept with its vault, so that its id stays its own.
KEPT = {}


def outcomes(vault, state, call):
    kept = KEPT.setdefault(id(vault), (vault, {}))[1]
    if (state, call) not in kept:
        found = {}
        for coins in itertools.product((0, 1), repeat=4 if vault.has_coins() else 0):
            run = Slow(vault, state, call, coins)
            found[coins[:run.used]] = (coins[:run.used], run.answer, tuple(run.cells))
        kept[(state, call)] = [found[coins] for coins in sorted(found)]
    return kept[(state, call)]


def states(vault):
    found = [vault.first()]
    for state in found:
        for call in vault.calls():
            for _, _, after in outcomes(vault, state, call):
                if after not in found:
                    found.append(after)
    return found


def moved(vault, share, call):
    behind = {}
    for state, chance in share.items():
        for coins, _, after in outcomes(vault, state, call):
            behind[after] = behind.get(after, 0) + chance * Fraction(1, 2 ** len(coins))
    return behind


def share(vault, row):
    found = {vault.first(): Fraction(1)}
    for call in row:
        found = moved(vault, found, call)
    return found


def told(share):
    """A share of fractions as tuples."""
    return {state: (chance.numerator, chance.denominator) for state, chance in share.items()}


def answers_from(vault, held, call):
    return {answer for state in held for _, answer, _ in outcomes(vault, state, call)}


def behind_all(vault, held, call):
    return frozenset(after for state in held for _, _, after in outcomes(vault, state, call))


def is_sure(vault):
    """By the sets of states that can be behind rows."""
    due, seen = [frozenset([vault.first()])], set()
    while due:
        held = due.pop()
        if held not in seen:
            seen.add(held)
            for call in vault.calls():
                if len(answers_from(vault, held, call)) > 1:
                    return False
                due.append(behind_all(vault, held, call))
    return True


def parting_length(vault, one, other, bound=40):
    """The length of the shortest row that parts two states of a sure vault; None if there is none."""
    due, seen = [(one, other)], set()
    for length in range(1, bound):
        coming = []
        for s, t in due:
            for call in vault.calls():
                _, answer, after = outcomes(vault, s, call)[0]
                _, other_answer, other_after = outcomes(vault, t, call)[-1]
                if answer != other_answer:
                    return length
                if (after, other_after) not in seen:
                    seen.add((after, other_after))
                    coming.append((after, other_after))
        due = coming
    assert not due
    return None


def contents(vault):
    found = []
    for state in states(vault):
        for content in found:
            if parting_length(vault, content[0], state) is None:
                content.append(state)
                break
        else:
            found.append([state])
    return found


def counts(row, behind):
    return behind is None or bool(row) and row[-1][0] in behind


def shares_by_content(vault, behind, longest):
    """For each content, the shares of its pasts that count, with the length of the shortest one, up to a length."""
    which = {state: index for index, content in enumerate(contents(vault)) for state in content}
    found = {}
    layer = {frozenset({vault.first(): Fraction(1)}.items()): behind is None}
    for length in range(longest + 1):
        coming = {}
        for held, counted in layer.items():
            share = dict(held)
            if counted:
                found.setdefault(which[next(iter(share))], {}).setdefault(held, length)
            for call in vault.calls():
                key = frozenset(moved(vault, share, call).items())
                coming[key] = coming.get(key, False) or behind is None or call[0] in behind
        layer = coming
    return found


def joined_groups(pairs):
    groups = {}
    for pair in pairs:
        merged = set(pair)
        for state in pair:
            merged |= groups.get(state, {state})
        for state in merged:
            groups[state] = merged
    return lambda s, t: s == t or t in groups.get(s, ())


def pairs_fault(vault, pairs):
    joined = joined_groups(pairs)
    for index, (s, t) in enumerate(pairs):
        for call in vault.calls():
            ones, others = outcomes(vault, s, call), outcomes(vault, t, call)
            if len({way[1] for way in ones + others}) > 1:
                return ("answer", index, call)
            if not all(joined(one[2], other[2]) for one in ones for other in others):
                return ("pair", index, call)
    return None


def likeness_fault(vault, one, other, pairs):
    return ("first",) if not joined_groups(pairs)(one, other) else pairs_fault(vault, pairs)


def unsure_fault(vault, thing):
    row, answers = thing[0], []
    for which in (0, 1):
        state = vault.first()
        for index, call in enumerate(row):
            ways = [way for way in outcomes(vault, state, call) if way[0] == thing[1 + which][index]]
            if not ways:
                return ("falls", which, index)
            _, answer, state = ways[0]
        answers.append(answer)
    return ("same",) if answers[0] == answers[1] else None


def last_answer(vault, share, row):
    for call in row:
        answer = answers_from(vault, share, call)
        share = moved(vault, share, call)
    return answer


def table_fault(vault, thing, behind):
    shares = [{state: Fraction(*chance) for state, chance in share.items()} for share in thing[1]]
    if {vault.first(): Fraction(1)} not in shares:
        return ("first",)
    for index, share in enumerate(shares):
        for call in vault.calls():
            if len(answers_from(vault, share, call)) > 1:
                return ("answer", index, call)
            if moved(vault, share, call) not in shares:
                return ("behind", index, call)
    counted = [behind is None or any(moved(vault, before, call) == share for before in shares
                                     for call in vault.calls() if call[0] in behind) for share in shares]
    for i, j in itertools.combinations(range(len(shares)), 2):
        if shares[i] != shares[j] and counted[i] and counted[j]:
            rows = [row for row in thing[2] if row]
            if all(last_answer(vault, shares[i], row) == last_answer(vault, shares[j], row) for row in rows):
                return ("alike", i, j)
    return None


def past_fault(vault, thing, behind=None):
    """Of what has one of the two forms."""
    if thing[0] == "table":
        return table_fault(vault, thing, behind)
    _, one, other, pairs = thing
    for which in (0, 1):
        if not counts(thing[1 + which], behind):
            return ("count", which)
    one, other = share(vault, one), share(vault, other)
    if one == other:
        return ("same",)
    joined = joined_groups(pairs)
    for s in sorted(one):
        for t in sorted(other):
            if not joined(s, t):
                return ("first", s, t)
    return pairs_fault(vault, pairs)


class Maker:
    """Makes vaults by a seed."""

    def __init__(self, seed):
        self.dice = random.Random(seed)

    def expression(self, deep=2):
        pick = self.dice.randrange(6)
        if pick < 2 or deep == 0:
            return self.dice.choice([0, 1, 1, 2, 3, 9, "x"])
        if pick < 4:
            return self.dice.choice("aabbcdx")
        return (self.dice.choice("+-*=<"), self.expression(deep - 1), self.expression(deep - 1))

    def row(self, cells, deep, loops, coins):
        words = ["read", "read", "set", "set", "swap", "keep", "answer"]
        words += ["coin"] * (2 if coins and not loops else 0)
        words += ["if", "if"] * (deep < 3) + ["times"] * (deep < 3 and loops < 2)
        word, reg, cell = self.dice.choice(words), self.dice.choice("aabcd"), self.dice.randrange(cells)
        return {
            "read": lambda: ("read", reg, cell),
            "set": lambda: ("set", cell, self.expression()),
            "swap": lambda: ("swap", reg, cell, self.expression(), self.expression()),
            "keep": lambda: ("keep", reg, self.expression()),
            "coin": lambda: ("coin", reg),
            "if": lambda: ("if", self.expression(), self.rows(cells, deep + 1, loops, coins),
                           self.rows(cells, deep + 1, loops, coins)),
            "times": lambda: ("times", self.expression(), self.rows(cells, deep + 1, loops + 1, coins)),
            "answer": lambda: ("answer", self.expression()),
        }[word]()

    def rows(self, cells, deep, loops, coins):
        return tuple(self.row(cells, deep, loops, coins) for _ in range(self.dice.randrange(4)))

    def body(self, cells, coins, told):
        while True:
            rows = self.rows(cells, 1, 0, coins) + self.rows(cells, 1, 0, coins)
            if self.dice.random() < 0.3:
                rows = (("read", "a", 0),) + rows
            if not told:
                rows = tuple(row for row in rows if row[0] != "answer")
            if str(rows).count("coin") <= 4:
                return rows

    def vault(self, coins=False, most_cells=3, sizes=3):
        """A vault; with coins it may have deeds that answer nothing and one that tells the first cell."""
        cells = [(size, self.dice.randrange(size)) for size in
                 [self.dice.randrange(1, sizes + 1) for _ in range(self.dice.randrange(1, most_cells + 1))]]
        quiet = self.dice.random() < 0.6
        deeds = [(name, self.dice.randrange(1, 3), self.body(len(cells), coins, not quiet))
                 for name in ("one", "two", "three")[:self.dice.randrange(1, 4)]]
        if quiet:
            deeds.append(("get", 1, (("read", "a", 0), ("answer", "a"))))
        return Vault(cells, deeds)


def damaged(dice, thing):
    """The thing with some item of it changed, left out, put in or put elsewhere."""
    thing = copy.deepcopy(thing)
    lists = []

    def gather(part):
        if isinstance(part, list):
            lists.append(part)
        for inner in part.values() if isinstance(part, dict) else part if isinstance(part, (list, tuple)) else ():
            gather(inner)
    gather(thing)
    for _ in range(dice.randrange(1, 3)):
        part = dice.choice(lists)
        at = dice.randrange(len(part) + 1)
        pick = dice.randrange(3)
        if pick == 0 and at < len(part):
            del part[at]
        elif pick == 1 and part:
            part.insert(at, copy.deepcopy(dice.choice(part)))
        elif part:
            dice.shuffle(part)
    return thing
