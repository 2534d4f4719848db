"""Two hands that make calls of one vault on the same cells."""

from pastless.checks import call_number, call_numbers, check_plain, is_within
from pastless.errors import Busy, NoCall, NoHand, NotBusy
from pastless.machines import Run, do_step, go_on


class Hands:
    """Two hands on the cells of a vault [31]. It changes by `call` and `step`."""

    def __init__(self, vault):
        check_plain(vault)
        self._numbers = call_numbers(vault)
        self._starts = vault.starts()
        self._sides = vault.sizes()
        self._cells = list(vault.first())
        # For each hand the tuple of the call that it is amid and its run, on the cells of both; or None.
        self._amid = [None, None]
        self._woven = []
        self._seen = []

    def call(self, hand, call):
        """The hand begins a call; the answer, or None if the call goes on."""
        check_hand(hand)
        number = call_number(self._numbers, call)
        if number < 0:
            raise NoCall()
        if self._amid[hand] is not None:
            raise Busy()
        self._amid[hand] = (call, Run(self._starts[number], self._sides, self._cells, []))
        self._woven.append(("call", hand, call))
        self._seen.append(("called", hand, call))
        return self._go_on(hand)

    def step(self, hand):
        """The hand makes its next step; the answer, or None if the call goes on."""
        check_hand(hand)
        if self._amid[hand] is None:
            raise NotBusy()
        do_step(self._amid[hand][1])
        self._woven.append(("step", hand))
        return self._go_on(hand)

    def state(self):
        """What the cells hold."""
        return tuple(self._cells)

    def busy(self, hand):
        """The call that the hand is amid, or None."""
        check_hand(hand)
        return None if self._amid[hand] is None else self._amid[hand][0]

    def weaving(self):
        """The list of all items so far."""
        return list(self._woven)

    def told(self):
        """The list of what can be seen: the calls as they began and as they were answered."""
        return list(self._seen)

    def _go_on(self, hand):
        run = self._amid[hand][1]
        go_on(run)
        if run.result is not None:
            self._amid[hand] = None
            self._seen.append(("answered", hand, run.result))
        return run.result


def check_hand(hand):
    """NoHand if it is none of the two."""
    if not is_within(hand, 0, 1):
        raise NoHand()
