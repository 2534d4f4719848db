"""What happens in a weaving, item by item and call by call."""

from pastless.checks import is_tuple
from pastless.errors import Busy, NoCall, NoHand, NotBusy, NoWeaving
from pastless.hands import Hands


class Woven:
    """What happened in a weaving so far.

    By the numbers of its calls: the calls in `made`, and in `begins`, `over` and `replies` the index of the item with
    which each one began, and the index and the answer with which it was answered, or None. `moments` has for each
    item the tuple (hand, number, answer, state, rest): the number of the call that it is of, the answer or None, the
    state behind the item, and whether no hand is amid a call there.
    """

    def __init__(self, vault):
        self.made = []
        self.begins = []
        self.over = []
        self.replies = []
        self.moments = []
        self._hands = Hands(vault)
        self._amid = [-1, -1]

    def take(self, item):
        """Makes the next item; whether it can be made."""
        try:
            if is_tuple(item, 3) and item[0] == "call":
                answer = self._hands.call(item[1], item[2])
                self._begin(item[1], item[2])
            elif is_tuple(item, 2) and item[0] == "step":
                answer = self._hands.step(item[1])
            else:
                return False
        except (NoHand, NoCall, Busy, NotBusy):
            return False
        self._tell(item[1], answer)
        return True

    def _begin(self, hand, call):
        self._amid[hand] = len(self.made)
        self.made.append(call)
        self.begins.append(len(self.moments))
        self.over.append(None)
        self.replies.append(None)

    def _tell(self, hand, answer):
        number = self._amid[hand]
        if answer is not None:
            self.over[number] = len(self.moments)
            self.replies[number] = answer
        rest = self._hands.busy(0) is None and self._hands.busy(1) is None
        self.moments.append((hand, number, answer, self._hands.state(), rest))


def woven_of(vault, weaving):
    """What happened in a weaving; HasCoins, NoWeaving."""
    woven = Woven(vault)
    if not isinstance(weaving, list):
        raise NoWeaving(-1)
    for index, item in enumerate(weaving):
        if not woven.take(item):
            raise NoWeaving(index)
    return woven
