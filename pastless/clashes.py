"""Two pasts of one content with different shares: what there is just in vaults that are not pastless.

A clash is a tuple (one, other, start) of two pasts and a list of pairs of places: if these are joined, each state of
the one share is joined with each state of the other.
"""

from pastless.shares import moved


def past_lengths(reach):
    """By places, the length of the shortest past to a state."""
    lengths = [0]
    for before, _, _ in reach.origins[1:]:
        lengths.append(lengths[before] + 1)
    return lengths


def shortest_ends(reach, behind):
    """For each place behind a past that counts, the shortest one: tuples (length, place, last), the shorter ones first.

    `last` is the tuple of the place ahead of the last call and its number, or None for the shortest past of all.
    """
    lengths = past_lengths(reach)
    if behind is None:
        return [(length, place, None) for place, length in enumerate(lengths)]
    numbers = [number for number, call in enumerate(reach.list_of_calls) if call[0] in behind]
    ends = {}
    for before, length in enumerate(lengths):
        for number in numbers:
            place = reach.leads[number][before]
            if place not in ends:
                ends[place] = (length + 1, place, (before, number))
    return list(ends.values())


def past_to(reach, end):
    """The past that an end tells of."""
    _, place, last = end
    if last is None:
        return reach.met(place)[0]
    before, number = last
    return reach.met(before)[0] + [reach.list_of_calls[number]]


def plain_clash(reach, block, behind):
    """A clash of a vault without coins whose pasts are, in sum, as short as can be; None if there is none."""
    firsts = {}
    best = None
    for end in shortest_ends(reach, behind):
        kind = block[end[1]]
        if kind not in firsts:
            firsts[kind] = end
        elif best is None or firsts[kind][0] + end[0] < best[0][0] + best[1][0]:
            best = (firsts[kind], end)
    if best is None:
        return None
    one, other = best
    return (past_to(reach, one), past_to(reach, other), [(one[1], other[1])])


class Walk:
    """The shares of pasts of a sure vault, by places, until a content has two of them.

    `shares` has one share for each content that was met, as weights; `clash` is None if it is the only one of each.
    """

    def __init__(self, reach, block):
        self.shares = []
        self.clash = None
        self._reach = reach
        self._block = block
        self._origins = []
        self._by_block = {}
        self._put({0: 1}, -1, 0)
        index = 0
        while index < len(self.shares) and self.clash is None:
            for number in range(len(reach.list_of_calls)):
                ways = {place: reach.ways(place, number) for place in self.shares[index]}
                self._put(moved(self.shares[index], ways), index, number)
            index += 1

    def _put(self, weights, before, number):
        block = self._block[list(weights)[0]]
        if block not in self._by_block:
            self._by_block[block] = len(self.shares)
            self.shares.append(weights)
            self._origins.append((before, number))
            return
        known = self._by_block[block]
        if self.clash is None and self.shares[known] != weights:
            one = list(self.shares[known])
            other = list(weights)
            start = [(one[0], place) for place in other] + [(place, other[0]) for place in one]
            past = self._past_to(before) + [self._reach.list_of_calls[number]]
            self.clash = (self._past_to(known), past, start)

    def _past_to(self, index):
        row = []
        while index > 0:
            index, number = self._origins[index]
            row.append(self._reach.list_of_calls[number])
        return row[::-1]
