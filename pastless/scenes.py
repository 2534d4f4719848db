"""Scenes: what there is behind the weavings of a vault [33]."""

from pastless.ends import EndSets
from pastless.machines import Run, branched, do_step, go_on
from pastless.plain import Plain
from pastless.trails import Trail

IDLE_SPOT = -1


class Spots:
    """The SPOTS at which a hand can be amid a call, each told by its number.

    A spot is the call and what its steps so far came to, one by one; IDLE_SPOT is that of a hand that is amid no call.
    """

    def __init__(self, vault):
        self.numbers = []
        self._starts = vault.starts()
        self._sides = vault.sizes()
        self._runs = []
        self._behind = {}
        self._steps = {}

    def begun(self, number):
        """The tuple of the spot and None behind the beginning of a call, or of IDLE_SPOT and the answer."""
        key = (IDLE_SPOT, number)
        if key not in self._behind:
            self._put(key, number, Run(self._starts[number], self._sides, [], []))
        return self._behind[key]

    def stepped(self, spot, state):
        """The tuple of (spot, answer) and the state behind a step from a spot, if the cells are in a state."""
        key = (spot, state)
        if key not in self._steps:
            run = branched(self._runs[spot], list(state))
            came = do_step(run)
            if (spot, came) not in self._behind:
                self._put((spot, came), self.numbers[spot], run)
            self._steps[key] = (self._behind[(spot, came)], tuple(run.cells))
        return self._steps[key]

    def _put(self, key, number, run):
        """Goes on with a run to the next step, and puts where it is then behind the key."""
        go_on(run)
        if run.result is not None:
            self._behind[key] = (IDLE_SPOT, run.result)
            return
        self._behind[key] = (len(self._runs), None)
        self._runs.append(run)
        self.numbers.append(number)


class Scenes:
    """The scenes of a vault, as tuples (state, spot, spot, set of ends), until a weaving breaks the rule.

    `broken` is a weaving that does, as short as can be, or None.
    """

    def __init__(self, vault, rule, most):
        self.broken = None
        self._rule = rule
        self._calls = vault.calls()
        self._spots = Spots(vault)
        self._sets = EndSets(vault, Plain(vault))
        self._trail = Trail((vault.first(), IDLE_SPOT, IDLE_SPOT, 0), most)
        place = 0
        while place < len(self._trail.found) and self.broken is None:
            for hand in (0, 1):
                self._go(place, hand)
            place += 1

    def _go(self, place, hand):
        """Whatever a hand can do next at a scene."""
        scene = self._trail.found[place]
        state, spots, which = scene[0], scene[1:3], scene[3]
        if spots[hand] != IDLE_SPOT:
            told, behind = self._spots.stepped(spots[hand], state)
            self._put(place, ("step", hand), behind, told, which)
            return
        for number, call in enumerate(self._calls):
            numbers = self._amid_numbers(hand, number, spots[1 - hand])
            told = self._spots.begun(number)
            self._put(place, ("call", hand, call), state, told, self._sets.begun(which, hand, numbers))

    def _amid_numbers(self, hand, number, others):
        """The numbers of the calls that the hands are amid, if a hand begins one while the other is at a spot."""
        late = -1 if others == IDLE_SPOT else self._spots.numbers[others]
        return (number, late) if hand == 0 else (late, number)

    def _put(self, place, item, state, told, which):
        """Puts the scene behind an item: its state, the spot of the item's hand with the answer, and a set of ends."""
        if self.broken is not None:
            return
        spot, answer = told
        if answer is not None:
            which = self._sets.answered(which, item[1], answer)
        spots = (spot, self._trail.found[place][2]) if item[1] == 0 else (self._trail.found[place][1], spot)
        scene = (state,) + spots + (which,)
        if scene in self._trail.places:
            return
        if self._sets.is_kept(which, self._rule, state, spots == (IDLE_SPOT, IDLE_SPOT)):
            self._trail.put(scene, place, item)
        else:
            self.broken = self._trail.way_to(place) + [item]
