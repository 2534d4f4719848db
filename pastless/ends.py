"""The ENDS of a weaving: what its orders come to [33].

An end is a tuple (state, one, other): the state to which the calls of an order lead, and for each hand the answer that
the call which it is amid has in the order, OPEN if the order has it not, or IDLE if the hand is amid no call.

Only a call that is not answered yet can stand behind one that begins now. So each order of a longer weaving is one of
the shorter weaving, or one with the new call put behind it, or with the new call and then that of the other hand; and
from the ends of the shorter weaving come all those of the longer one.
"""

OPEN = -1
IDLE = -2


def end_of(state, hand, own, others):
    """The end at this state, with what is told of the hand and of the other one."""
    return (state, own, others) if hand == 0 else (state, others, own)


def first_end(state):
    """The end of the one order of the weaving without items."""
    return (state, IDLE, IDLE)


def ends_behind(plain, end, hand, numbers):
    """What becomes of an end if a hand begins a call: tuples (end, hands), the hands being those whose calls are put.

    They are put behind the order, one behind the other. `numbers` are those of the calls that the hands are amid.
    """
    state = end[0]
    others = end[2 - hand]
    found = [(end_of(state, hand, OPEN, others), ())]
    answer, behind = plain.way(state, numbers[hand])
    found.append((end_of(behind, hand, answer, others), (hand,)))
    if others == OPEN:
        late, last = plain.way(behind, numbers[1 - hand])
        found.append((end_of(last, hand, answer, late), (hand, 1 - hand)))
    return found


def answered_end(end, hand, answer):
    """What becomes of an end if the call of a hand is answered; None if the order has it not, or otherwise."""
    if end[1 + hand] != answer:
        return None
    return end_of(end[0], hand, IDLE, end[2 - hand])


class EndSets:
    """The sets of ends that weavings have, each told by its number; 0 is that of the weaving without items."""

    def __init__(self, vault, plain):
        self._plain = plain
        self._numbers = {}
        self._sets = []
        self._held = []
        self._behind = {}
        self._put([first_end(vault.first())])

    def begun(self, which, hand, numbers):
        """The set behind the beginning of a call; `numbers` are those of the calls that the hands are amid then."""
        key = (which, hand, numbers)
        if key not in self._behind:
            found = {}
            for end in self._sets[which]:
                for behind, _ in ends_behind(self._plain, end, hand, numbers):
                    found[behind] = True
            self._behind[key] = self._put(list(found))
        return self._behind[key]

    def answered(self, which, hand, answer):
        """The set behind the answer to the call of a hand."""
        key = (which, hand, answer)
        if key not in self._behind:
            found = {}
            for end in self._sets[which]:
                behind = answered_end(end, hand, answer)
                if behind is not None:
                    found[behind] = True
            self._behind[key] = self._put(list(found))
        return self._behind[key]

    def is_kept(self, which, rule, state, rest):
        """Whether a weaving with this set is as the rule says, if the cells are in this state, at rest or not."""
        if rule == "moment" or (rule == "rest" and rest):
            return state in self._held[which]
        return len(self._sets[which]) > 0

    def _put(self, ends):
        key = tuple(sorted(ends))
        if key not in self._numbers:
            self._numbers[key] = len(self._sets)
            self._sets.append(key)
            self._held.append({end[0]: True for end in key})
        return self._numbers[key]
