"""Boards: the cells on which the contents of a wish are to be laid, and what is laid there already [27].

What is laid is told by a dict from contents to states.
"""


class Board:
    """A wish and the sizes of some cells."""

    def __init__(self, wish, sizes):
        self.sides = sizes
        self.tied = [[] for _ in range(wish.many())]
        for one, other in wish.ties():
            self.tied[one].append(other)
            self.tied[other].append(one)

    def room(self):
        """How many states there are beside each one, that differ from it in just one cell."""
        return sum(self.sides) - len(self.sides)

    def is_crowd(self, content):
        """Whether more contents are tied to this one than there are states beside its own."""
        return len(self.tied[content]) > self.room()

    def near(self, state):
        """The list of the states that differ from this one in just one cell, by the cell and then by its value."""
        found = []
        for cell, size in enumerate(self.sides):
            for value in range(size):
                if value != state[cell]:
                    found.append(state[:cell] + (value,) + state[cell + 1:])
        return found

    def hosts(self, laid, content):
        """The list of the contents that are laid and tied to this one."""
        return [other for other in self.tied[content] if other in laid]

    def refusal(self, laid, content, state):
        """Why a content cannot be laid at a state, ("taken", other) or ("apart", other); None if it can."""
        for other in sorted(laid):
            if laid[other] == state:
                return ("taken", other)
        for other in self.hosts(laid, content):
            if are_apart(laid[other], state):
                return ("apart", other)
        return None


def unlike_cells(one, other):
    """The number of the cells in which two states differ."""
    return len([cell for cell in range(len(one)) if one[cell] != other[cell]])


def are_apart(one, other):
    """Whether two states differ in two cells or more."""
    return unlike_cells(one, other) > 1
