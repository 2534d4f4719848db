"""Whether a vault is sure: whether its answers hang on nothing but the calls."""

from pastless.errors import NotComing, NotSure
from pastless.joins import Joints
from pastless.reach import reach_of


class Meeting:
    """Looks for a row of calls with two last answers.

    A MOVE is a tuple (before, place, number, coins, coins): the call with the number is made with these falls from
    the two places of the link `before`, or, if this is -1, both times from the one place. A LINK is a tuple (one,
    other, move) of the places behind a move; it is left out if the links ahead of it join them already. If nothing
    is shown by any state and any link, then all that the links join answer alike, and the vault is sure.
    """

    def __init__(self, reach):
        self.shown = None
        self._reach = reach
        self._joints = Joints()
        self._links = []
        place = 0
        while place < len(reach.found) and self.shown is None:
            self._look_at_state(place)
            place += 1
        index = 0
        while index < len(self._links) and self.shown is None:
            self._look_at_link(index)
            index += 1

    def witness(self):
        """The row that is shown, and the falls of its two pasts."""
        row = []
        ones = []
        others = []
        before = 0
        move = self.shown
        while before >= 0:
            before, place, number, coins, other_coins = move
            row.append(self._reach.list_of_calls[number])
            ones.append(coins)
            others.append(other_coins)
            move = self._links[before][2] if before >= 0 else None
        past, falls = self._reach.met(place)
        return (past + row[::-1], falls + ones[::-1], falls + others[::-1])

    def _look_at_state(self, place):
        for number in range(len(self._reach.replies)):
            ways = self._reach.ways(place, number)
            for way in ways[1:]:
                self._compare(ways[0], way, (-1, place, number, ways[0][0], way[0]))

    def _look_at_link(self, index):
        one, other, _ = self._links[index]
        for number in range(len(self._reach.replies)):
            # One way from each is enough: the others are joined with it, or were shown, when the states were looked at.
            way = self._reach.ways(one, number)[0]
            other_way = self._reach.ways(other, number)[0]
            self._compare(way, other_way, (index, one, number, way[0], other_way[0]))

    def _compare(self, way, other_way, move):
        if self.shown is not None:
            return
        if way[1] != other_way[1]:
            self.shown = move
        elif self._joints.tie(way[2], other_way[2]):
            self._links.append((way[2], other_way[2], move))


def unsure_witness(reach):
    """A row of calls with two last answers, and the falls of its two pasts; None if the vault is sure."""
    if not reach.source.has_coins():
        return None
    meeting = Meeting(reach)
    return None if meeting.shown is None else meeting.witness()


def sure_reach(vault, most):
    """All that can come of a sure vault; NoMost, TooMany, NotSure."""
    reach = reach_of(vault, most)
    if unsure_witness(reach) is not None:
        raise NotSure()
    return reach


def coming_place(reach, state):
    """The place of a state that can come; NotComing."""
    if state not in reach.places:
        raise NotComing()
    return reach.places[state]
