"""What DOC.md says in [25] to [30], worked out slowly and plainly; and wishes to try it on."""

import itertools
from fractions import Fraction

from pastless.vaults import Vault, begun
from pastless.wishes import Wish
from slow import contents, moved, outcomes, past_fault, share, states


def ring_wish(many):
    """A wish of so many contents in a ring, each with its own answers."""
    return tied_wish(many, [(at, (at + 1) % many) for at in range(many)])


def crowd_wish(many):
    """A wish of so many contents, of which each two are tied."""
    return tied_wish(many, itertools.combinations(range(many), 2))


def tied_wish(many, pairs):
    """A wish of so many contents with just these ties; the calls tell the content by two answers."""
    tied = [set() for _ in range(many)]
    for one, other in pairs:
        tied[one].add(other)
        tied[other].add(one)
    wide = max(1, -(-many // 9))
    deeds = [("go" + "abcdefgh"[at], min(9, many - 9 * at)) for at in range(wide)]
    calls = [(name, argument) for name, choices in deeds for argument in range(choices)]
    low, high = ("low", 0), ("high", 0)
    table = []
    for content in range(many):
        row = {call: (0, to if to in tied[content] else content) for to, call in enumerate(calls)}
        row[low], row[high] = (content % 10, content), (content // 10, content)
        table.append(row)
    return Wish(deeds + [("low", 1), ("high", 1)], table)


def made_wish(dice, most=6):
    """A wish made with dice: contents that cannot come are left out, and so are those that are like others."""
    while True:
        many = dice.randrange(1, most + 1)
        deeds = [(name, dice.randrange(1, 4)) for name in ("one", "two", "three")[:dice.randrange(1, 4)]]
        calls = [(name, argument) for name, choices in deeds for argument in range(choices)]
        spread = dice.choice([1, 2, 9])
        leads = [[dice.choice([content, dice.randrange(many)]) for _ in calls] for content in range(many)]
        replies = [[dice.randrange(spread + 1) for _ in calls] for _ in range(many)]
        if is_wish(replies, leads):
            table = [{call: (replies[content][at], leads[content][at]) for at, call in enumerate(calls)} for content in range(many)]
            return Wish(deeds, table)


def is_wish(replies, leads):
    """Whether all contents can come and no two are like."""
    come = [0]
    for content in come:
        come += [behind for behind in dict.fromkeys(leads[content]) if behind not in come]
    if len(come) < len(leads):
        return False
    kinds = [tuple(row) for row in replies]
    for _ in leads:
        kinds = [(kinds[content], tuple(kinds[behind] for behind in leads[content])) for content in range(len(leads))]
        names = {kind: at for at, kind in enumerate(kinds)}
        kinds = [names[kind] for kind in kinds]
    return len(set(kinds)) == len(leads)


def unkept_length(vault, wish):
    """The length of the shortest row behind which the last answers differ; None."""
    due = [(vault.first(), 0, 0)]
    seen = {(vault.first(), 0)}
    for state, content, length in due:
        for call in vault.calls():
            _, answer, after = outcomes(vault, state, call)[0]
            if answer != wish.answer(content, call):
                return length + 1
            both = (after, wish.after(content, call))
            if both not in seen:
                seen.add(both)
                due.append(both + (length + 1,))
    return None


def unlike(one, other):
    return sum(a != b for a, b in zip(one, other))


def is_laying(wish, layouts):
    return len(set(layouts)) == wish.many() and all(unlike(layouts[c], layouts[d]) == 1 for c, d in wish.ties())


def all_states(sizes):
    return list(itertools.product(*[range(size) for size in sizes]))


def has_laying(wish, sizes):
    """By going through the layouts content by content, with the first one anywhere."""
    def go(layouts):
        if len(layouts) == wish.many():
            return True
        content = len(layouts)
        near = [c if d == content else d for c, d in wish.ties() if content in (c, d) and min(c, d) < content and max(c, d) == content]
        return any(go(layouts + [state]) for state in all_states(sizes)
                   if state not in layouts and all(unlike(state, layouts[c]) == 1 for c in near))
    return go([])


def laying_fault(wish, layouts):
    if len(layouts) != wish.many():
        return ("many",)
    for c, d in itertools.combinations(range(len(layouts)), 2):
        if layouts[c] == layouts[d]:
            return ("same", c, d)
    for c, d in wish.ties():
        if unlike(layouts[c], layouts[d]) != 1:
            return ("apart", c, d)
    return None


def tree_places(wish, sizes, laid, place, path):
    """All places of a tree, each ahead of its branches, as tuples of the path and whether it is right there."""
    room = sum(sizes) - len(sizes)
    tied = {content: [c + d - content for c, d in wish.ties() if content in (c, d)] for content in range(wish.many())}

    def content(value):
        return type(value) is int and value in tied
    if isinstance(place, tuple) and len(place) == 2 and place[0] == "crowd":
        return [(path, content(place[1]) and len(tied[place[1]]) > room)]
    if not isinstance(place, tuple) or len(place) != 4 or place[0] != "place" or not isinstance(place[3], list):
        return [(path, False)]
    _, new, beside, branches = place
    if not content(new) or not content(beside) or new in laid or beside not in laid or new not in tied[beside] or len(branches) != room:
        return [(path, False)]
    near = sorted([state for state in all_states(sizes) if unlike(state, laid[beside]) == 1],
                  key=lambda state: ([a == b for a, b in zip(state, laid[beside])].index(False), state))
    found = [(path, True)]
    for at, (branch, state) in enumerate(zip(branches, near)):
        other = branch[1] if isinstance(branch, tuple) and len(branch) == 2 and content(branch[1]) else None
        if other is not None and branch[0] == "taken" and laid.get(other) == state:
            found.append((path + [at], True))
        elif other in laid and branch[0] == "apart" and other in tied[new] and unlike(laid[other], state) > 1:
            found.append((path + [at], True))
        else:
            found += tree_places(wish, sizes, {**laid, new: state}, branch, path + [at])
    return found


def tree_fault(wish, sizes, tree):
    wrong = [path for path, right in tree_places(wish, sizes, {0: (0,) * len(sizes)}, tree, []) if not right]
    return ("tree", wrong[0]) if wrong else None


def crowd_size(wish):
    """By all lists of contents."""
    ties = set(wish.ties())
    return max(many for many in range(1, wish.many() + 1)
               for some in itertools.combinations(range(wish.many()), many) if set(itertools.combinations(some, 2)) <= ties)


def is_pastless(vault):
    """By the shares of pasts; of a sure vault."""
    which = {state: index for index, content in enumerate(contents(vault)) for state in content}
    found = {}
    due = [{vault.first(): Fraction(1)}]
    for held in due:
        key, content = frozenset(held.items()), which[next(iter(held))]
        if content not in found:
            found[content] = key
            due += [moved(vault, held, call) for call in vault.calls()]
        elif found[content] != key:
            return False
    return True


def is_pastless_forever(vault):
    return all(is_pastless(begun(vault, state)) for state in states(vault))


def does_return(vault):
    """Whether a state that is like the first one can come from each state."""
    first = contents(vault)[0]
    return all(set(states(begun(vault, state))) & set(first) for state in states(vault))


def forever_fault(vault, thing):
    """Of what has one of the two forms."""
    if thing[0] == "looks":
        _, past, state, one, other, pairs = thing
        if state not in share(vault, past):
            return ("past",)
        fault = past_fault(begun(vault, state), ("pasts", one, other, pairs))
        return fault and ("pasts", fault)
    tables = thing[1]
    if vault.first() not in tables:
        return ("first",)
    for state in sorted(tables):
        fault = past_fault(begun(vault, state), ("table",) + tables[state])
        if fault:
            return ("table", state, fault)
        if any(other not in tables for part in tables[state][0] for other in part):
            return ("lack", state)
    return None


def laying_coins(cells):
    """A vault that lays down a coin in each of some cells, once and for ever, when it is asked to."""
    deeds = [("lay" + name, 1, (("read", "a", at), ("if", ("=", "a", 2), (("coin", "b"), ("set", at, "b")), ()), ("answer", ("=", "a", 2))))
             for at, name in enumerate("abcdef"[:cells])]
    return Vault([(3, 2)] * cells, deeds)
