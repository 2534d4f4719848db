"""Which states a list of pairs joins."""


class Joints:
    """What is joined with what, by chains of pairs [14]. It joins states, or places."""

    def __init__(self):
        self._above = {}

    def root(self, state):
        """The state that stands for all those that are joined with this one."""
        top = state
        while top in self._above:
            top = self._above[top]
        # The way is cut short, so that long chains are gone along once only.
        while state != top:
            above = self._above[state]
            self._above[state] = top
            state = above
        return top

    def joined(self, one, other):
        """Whether the two are joined."""
        return self.root(one) == self.root(other)

    def tie(self, one, other):
        """Joins the two; whether they were not joined before."""
        top = self.root(one)
        low = self.root(other)
        if top == low:
            return False
        self._above[low] = top
        return True


def joints_of(pairs):
    """What the pairs join."""
    joints = Joints()
    for one, other in pairs:
        joints.tie(one, other)
    return joints
