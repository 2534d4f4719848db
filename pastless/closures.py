"""What must be alike if given states are: the least likeness that joins them, or a row of calls that parts them."""

from pastless.checks import check_state
from pastless.joins import Joints
from pastless.sure import coming_place, sure_reach


class Closure:
    """What must be joined if the pairs of places in `start` are, in a sure vault.

    `row` is None if that can be: then `pairs` are a likeness. Otherwise it is a row of numbers of calls that parts
    the two of a pair of `start`, as short as can be. (Pairs that those ahead of them join already are left out. But
    then whatever row parts the two parts those of a pair ahead of them, too: so no shorter row is lost.)
    """

    def __init__(self, reach, start):
        self.pairs = []
        self.row = None
        self._reach = reach
        self._origins = []
        self._joints = Joints()
        for one, other in start:
            self._put(one, other, (-1, 0))
        index = 0
        while index < len(self.pairs) and self.row is None:
            self._follow(index)
            index += 1

    def _put(self, one, other, origin):
        if self._joints.tie(one, other):
            self.pairs.append((one, other))
            self._origins.append(origin)

    def _follow(self, index):
        one, other = self.pairs[index]
        for number in range(len(self._reach.replies)):
            if self._reach.replies[number][one] != self._reach.replies[number][other]:
                self.row = self._row_to(index) + [number]
                return
            ways = self._reach.ways(one, number)
            others = self._reach.ways(other, number)
            for _, _, behind in others:
                self._put(ways[0][2], behind, (index, number))
            for _, _, behind in ways:
                self._put(behind, others[0][2], (index, number))

    def _row_to(self, index):
        row = []
        index, number = self._origins[index]
        while index >= 0:
            row.append(number)
            index, number = self._origins[index]
        return row[::-1]


def closure_of(vault, one, other, most):
    """All that can come of a sure vault, and what must be joined if two of its states are; errors as of `parted`."""
    check_state(vault, one)
    check_state(vault, other)
    reach = sure_reach(vault, most)
    start = [(coming_place(reach, one), coming_place(reach, other))]
    return (reach, Closure(reach, start))


def state_pairs(reach, closure):
    """The pairs of a closure, as pairs of states."""
    return [(reach.found[one], reach.found[other]) for one, other in closure.pairs]
