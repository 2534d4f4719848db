"""Sorting the states that can come of a sure vault by what rows of calls can tell of them."""


class Sorting:
    """Sorts places into blocks: two are in one block if no row of calls parts them.

    `replies[number]` and `leads[number]` tell for each call the answers and the places behind, by places. At first
    all places are in one block. A block is split by a TAIL, a row of calls behind which its parts answer otherwise:
    a tuple of a call's number and the index in `tails` of the tail behind that call, -1 for none. A split is a tuple
    (tail, parts), without the greatest part: that one keeps the block's number, and need not be gone through again.
    (So no place is gone through more often than its block can be halved.)
    """

    def __init__(self, replies, leads):
        self.block = [0] * len(replies[0])
        self.tails = []
        self._tail_indexes = {}
        self._members = [{place: True for place in range(len(self.block))}]
        self._splits = []
        self._sources = sources_of(leads)
        for number, answers in enumerate(replies):
            self._sort_by_answers(number, answers)
        index = 0
        while index < len(self._splits) and not self.is_sorted_out():
            self._sort_by_split(index)
            index += 1

    def is_sorted_out(self):
        """Whether each block has one place only."""
        return len(self._members) == len(self.block)

    def blocks(self):
        """The list of the blocks by their first places, each the ascending list of its places."""
        found = {}
        for place, block in enumerate(self.block):
            found.setdefault(block, []).append(place)
        return list(found.values())

    def rows(self):
        """Rows of numbers of calls: any two places of two blocks answer otherwise at the end of one of them."""
        found = []
        for tail in self.tails:
            number, behind = tail
            row = [number]
            while behind >= 0:
                number, behind = self.tails[behind]
                row.append(number)
            found.append(row)
        return found

    def _sort_by_answers(self, number, answers):
        for block in range(len(self._members)):
            groups = {}
            for place in self._members[block]:
                groups.setdefault(answers[place], []).append(place)
            self._split(block, list(groups.values()), (number, -1))

    def _sort_by_split(self, index):
        behind, parts = self._splits[index]
        for number in self._sources:
            touched = {}
            for part, places in enumerate(parts):
                self._touch(touched, number, part, places)
            for block in touched:
                self._split(block, list(touched[block].values()), (number, behind))

    def _touch(self, touched, number, part, places):
        """Puts into `touched`, by blocks and parts, from where the call leads to the places of the part."""
        sources = self._sources[number]
        for behind in places:
            for place in sources.get(behind, ()):
                groups = touched.setdefault(self.block[place], {})
                groups.setdefault(part, []).append(place)

    def _split(self, block, groups, tail):
        """Splits a block into groups and, where some of it is in none of them, the rest."""
        members = self._members[block]
        rest = len(members) - sum([len(group) for group in groups])
        if rest == 0 and len(groups) == 1:
            return
        parts = sorted(groups, key=len, reverse=True)
        if len(parts[0]) > rest:
            grouped = {place for group in groups for place in group}
            parts = parts[1:]
            if rest > 0:
                parts.append([place for place in members if place not in grouped])
        for part in parts:
            self._move(block, part)
        self._splits.append((self._tail_index(tail), parts))

    def _move(self, block, part):
        for place in part:
            del self._members[block][place]
            self.block[place] = len(self._members)
        self._members.append({place: True for place in part})

    def _tail_index(self, tail):
        if tail not in self._tail_indexes:
            self._tail_indexes[tail] = len(self.tails)
            self.tails.append(tail)
        return self._tail_indexes[tail]


def sources_of(leads):
    """For each call, by its number, and for each place to which it leads: the list of those from which it does.

    Calls that lead as another one does, or nowhere else, are left out: they split nothing that is not split anyway.
    """
    seen = {tuple(range(len(leads[0]))): True}
    sources = {}
    for number, behind in enumerate(leads):
        column = tuple(behind)
        if column not in seen:
            seen[column] = True
            found = {}
            for place, after in enumerate(behind):
                found.setdefault(after, []).append(place)
            sources[number] = found
    return sources
