"""Orders of a weaving, found out while it goes on."""

from pastless.checks import call_numbers
from pastless.ends import answered_end, ends_behind, first_end
from pastless.plain import Plain


class Chains:
    """For each end of a weaving one of the orders that come to it.

    `found` has for each end the last LINK of its order, -1 for none. A link is told by its place in a list of tuples
    (before, number) of the link ahead of it and the number of a call.
    """

    def __init__(self, vault, woven):
        self.found = {first_end(vault.first()): -1}
        self._links = []
        self._plain = Plain(vault)
        self._numbers = call_numbers(vault)
        self._made = woven.made
        # What the hands are amid, or were at last, by the numbers of the weaving's calls.
        self._amid = [0, 0]
        for index, (hand, number, answer, _, _) in enumerate(woven.moments):
            if woven.begins[number] == index:
                self._begin(hand, number)
            if answer is not None:
                self._answer(hand, answer)

    def order_to(self, end):
        """The order that comes to an end."""
        numbers = []
        link = self.found[end]
        while link >= 0:
            link, number = self._links[link]
            numbers.append(number)
        return numbers[::-1]

    def _begin(self, hand, number):
        self._amid[hand] = number
        calls = [self._numbers[self._made[amid]] for amid in self._amid]
        found = {}
        for end, link in self.found.items():
            for behind, hands in ends_behind(self._plain, end, hand, calls):
                if behind not in found:
                    found[behind] = self._linked(link, hands)
        self.found = found

    def _answer(self, hand, answer):
        found = {}
        for end, link in self.found.items():
            behind = answered_end(end, hand, answer)
            if behind is not None:
                found[behind] = link
        self.found = found

    def _linked(self, link, hands):
        """The last link if the calls that these hands are amid are put behind a link."""
        for hand in hands:
            self._links.append((link, self._amid[hand]))
            link = len(self._links) - 1
        return link
