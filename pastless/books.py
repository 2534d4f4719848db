"""Judging a table: a list of shares that calls do not leave, and a book of rows of calls that part them."""

from pastless.likes import is_one_answer
from pastless.runs import Moves
from pastless.shares import moved, weights_key, weights_of


class ShareMoves:
    """What the calls do from shares, each told by its key; `kept` says whether what was found is kept."""

    def __init__(self, vault, kept):
        self._moves = Moves(vault)
        self._many = len(vault.calls())
        self._known = {}
        self._kept = kept

    def behind(self, key):
        """For each call its one answer from a share, or None if it has several, and the key of the share behind it."""
        if key in self._known:
            return self._known[key]
        found = [self._behind_call(key, number) for number in range(self._many)]
        if self._kept:
            self._known[key] = found
        return found

    def _behind_call(self, key, number):
        ways = {state: self._moves.ways(state, number) for state, _ in key}
        all_ways = [way for some in ways.values() for way in some]
        answer = all_ways[0][1] if is_one_answer(all_ways) else None
        return (answer, weights_key(moved({state: weight for state, weight in key}, ways)))


class Table:
    """The shares of a table, by their places in its list, and where the calls lead from each of them.

    `fault` is the first fault of theirs, or None. If it is None, `replies[number]` and `leads[number]` tell for each
    call the answers and the places behind; `same` tells for each place the first one with an equal share, and all
    places in `leads` are such first ones.
    """

    def __init__(self, vault, shares, moves):
        self.fault = None
        self.replies = [[] for _ in vault.calls()]
        self.leads = [[] for _ in vault.calls()]
        self._moves = moves
        self._places = {}
        keys = [weights_key(weights_of(share)) for share in shares]
        self.same = [self._places.setdefault(key, place) for place, key in enumerate(keys)]
        if weights_key({vault.first(): 1}) not in self._places:
            self.fault = ("first",)
        place = 0
        while place < len(shares) and self.fault is None:
            self._go(place, keys[place], vault.calls())
            place += 1

    def _go(self, place, key, calls):
        for number, (answer, behind) in enumerate(self._moves.behind(key)):
            if answer is None:
                self.fault = ("answer", place, calls[number])
                return
            if behind not in self._places:
                self.fault = ("behind", place, calls[number])
                return
            self.replies[number].append(answer)
            self.leads[number].append(self._places[behind])


class Book:
    """The rows of a book, each of numbers of calls, read from their ends: so rows that end alike share a way.

    `branches[node]` leads by the number of a call to the node of the row with this call ahead; node 0 is that of the
    empty row. `ends` has the nodes of the whole rows.
    """

    def __init__(self, rows):
        self.branches = [{}]
        self.ends = {}
        for row in rows:
            node = 0
            for number in reversed(row):
                node = self._next(node, number)
            self.ends[node] = True

    def _next(self, node, number):
        if number not in self.branches[node]:
            self.branches[node][number] = len(self.branches)
            self.branches.append({})
        return self.branches[node][number]


def kinds_told(replies, leads, rows):
    """A list with a number for each place: two have the same one if no row but the empty one parts them."""
    book = Book(rows)
    kinds = [0] * len(leads[0])
    many = 1
    due = [(book.branches[0][number], replies[number]) for number in book.branches[0]]
    while due and many < len(kinds):
        node, answers = due.pop()
        if node in book.ends:
            seen = {}
            kinds = [seen.setdefault(key, len(seen)) for key in zip(kinds, answers)]
            many = len(seen)
        for number, longer in book.branches[node].items():
            due.append((longer, [answers[behind] for behind in leads[number]]))
    return kinds


def alike_fault(table, rows, counted):
    """("alike", i, j) for the least two different shares that count and that no row parts; None if there are none."""
    kinds = kinds_told(table.replies, table.leads, rows)
    firsts = {}
    found = {}
    for place, kind in enumerate(kinds):
        if table.same[place] in counted:
            first = firsts.setdefault(kind, place)
            if table.same[first] != table.same[place] and first not in found:
                found[first] = place
    if not found:
        return None
    return ("alike", min(found), found[min(found)])
