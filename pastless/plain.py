"""What the calls do where no coins fall: from each state they have one answer, and lead to one state."""

from pastless.machines import Run, finish, finish_telling


class Plain:
    """What the calls of a vault without coins do, by the numbers of the calls. What was found is kept."""

    def __init__(self, vault):
        self._starts = vault.starts()
        self._sides = vault.sizes()
        self._known = {}

    def way(self, state, number):
        """The tuple of the answer of a call from a state and the state behind it."""
        key = (state, number)
        if key not in self._known:
            run = Run(self._starts[number], self._sides, list(state), [])
            finish(run)
            self._known[key] = (run.result, tuple(run.cells))
        return self._known[key]

    def whole(self, state, number):
        """The answer of a call from a state, the list of the states behind its steps, and the state behind it."""
        run = Run(self._starts[number], self._sides, list(state), [])
        steps = finish_telling(run)
        return (run.result, [step[3] for step in steps], tuple(run.cells))


class Plan:
    """For each call, by its number, the answers and the places behind, by places."""

    def __init__(self, many):
        self.replies = [[] for _ in range(many)]
        self.leads = [[] for _ in range(many)]

    def ways(self, place, number):
        """The one outcome of a call from a place, in the form of those of [9]."""
        return [((), self.replies[number][place], self.leads[number][place])]
