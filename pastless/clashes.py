"""Two pasts of one content with different shares: what there is just in vaults that are not pastless.

A clash is a tuple (one, other, start) of two pasts and a list of pairs of places: if these are joined, each state of
the one share is joined with each state of the other.
"""

from pastless.shares import moved, weights_key


def past_lengths(reach):
    """By places, the length of the shortest past to a state."""
    lengths = [0]
    for before, _, _ in reach.origins[1:]:
        lengths.append(lengths[before] + 1)
    return lengths


def shortest_ends(reach, behind):
    """For each place behind a past that counts, the shortest one: tuples (length, place, last), the shorter ones first.

    `last` is the tuple of the place ahead of the last call and its number, or None for the shortest past of all.
    """
    lengths = past_lengths(reach)
    if behind is None:
        return [(length, place, None) for place, length in enumerate(lengths)]
    numbers = [number for number, call in enumerate(reach.list_of_calls) if call[0] in behind]
    ends = {}
    for before, length in enumerate(lengths):
        for number in numbers:
            place = reach.leads[number][before]
            if place not in ends:
                ends[place] = (length + 1, place, (before, number))
    return list(ends.values())


def past_to(reach, end):
    """The past that an end tells of."""
    _, place, last = end
    if last is None:
        return reach.met(place)[0]
    before, number = last
    return reach.met(before)[0] + [reach.list_of_calls[number]]


def plain_clash(reach, block, behind):
    """A clash of a vault without coins whose pasts are, in sum, as short as can be; None if there is none."""
    firsts = {}
    best = None
    for end in shortest_ends(reach, behind):
        kind = block[end[1]]
        if kind not in firsts:
            firsts[kind] = end
        elif best is None or firsts[kind][0] + end[0] < best[0][0] + best[1][0]:
            best = (firsts[kind], end)
    if best is None:
        return None
    one, other = best
    return (past_to(reach, one), past_to(reach, other), [(one[1], other[1])])


class Shares:
    """The shares that are met, as weights by places, each told by its number; and where the calls lead from them."""

    def __init__(self, reach, block):
        self.weights = []
        self.kinds = []
        self._reach = reach
        self._block = block
        self._numbers = {}
        self._behind = {}

    def put(self, weights):
        """The number of a share; `kinds` has the block of its places, by this number."""
        key = weights_key(weights)
        if key not in self._numbers:
            self._numbers[key] = len(self.weights)
            self.weights.append(weights)
            self.kinds.append(self._block[list(weights)[0]])
        return self._numbers[key]

    def behind(self, number):
        """The list of the numbers of the shares behind the calls."""
        if number not in self._behind:
            self._behind[number] = [self._behind_call(number, call) for call in range(len(self._reach.replies))]
        return self._behind[number]

    def call_at(self, number):
        """The call with this number."""
        return self._reach.list_of_calls[number]

    def _behind_call(self, number, call):
        weights = self.weights[number]
        return self.put(moved(weights, {place: self._reach.ways(place, call) for place in weights}))


class Walk:
    """The shares of the pasts of a sure vault that begins at a place, until a content has two of them.

    `found` has the number of one share for each content that was met; `clash` is None if it is the only one of each.
    """

    def __init__(self, shares, place):
        self.found = []
        self.clash = None
        self._shares = shares
        self._origins = []
        self._by_kind = {}
        self._put(shares.put({place: 1}), -1, 0)
        index = 0
        while index < len(self.found) and self.clash is None:
            for call, number in enumerate(shares.behind(self.found[index])):
                self._put(number, index, call)
            index += 1

    def found_weights(self):
        """The shares that were found, as weights by places."""
        return [self._shares.weights[number] for number in self.found]

    def _put(self, number, before, call):
        kind = self._shares.kinds[number]
        if kind not in self._by_kind:
            self._by_kind[kind] = len(self.found)
            self.found.append(number)
            self._origins.append((before, call))
            return
        known = self._by_kind[kind]
        if self.clash is None and self.found[known] != number:
            one = list(self._shares.weights[self.found[known]])
            other = list(self._shares.weights[number])
            start = [(one[0], place) for place in other] + [(place, other[0]) for place in one]
            past = self._past_to(before) + [self._shares.call_at(call)]
            self.clash = (self._past_to(known), past, start)

    def _past_to(self, index):
        row = []
        while index > 0:
            index, call = self._origins[index]
            row.append(self._shares.call_at(call))
        return row[::-1]
