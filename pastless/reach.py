"""The states that can come of a vault, by numbers, and what each call does from each of them."""

from pastless.checks import check_most
from pastless.errors import TooMany
from pastless.machines import ways_from


class Reach:
    """The states that can come, in the order of [11]; each one is told by its place in `found`.

    For the call with a number, `replies[number]` and `leads[number]` tell by places the answer and the place behind
    of the first outcome; calls for which coins fall have all their outcomes in `spread`, by (place, number).
    `origins` tells by places from which place, by which call and with which falls the state was first met.
    """

    def __init__(self, vault):
        self.source = vault
        self.list_of_calls = vault.calls()
        self.found = [vault.first()]
        self.places = {vault.first(): 0}
        self.origins = [(0, 0, ())]
        self.replies = [[] for _ in self.list_of_calls]
        self.leads = [[] for _ in self.list_of_calls]
        self.spread = {}

    def ways(self, place, number):
        """The outcomes of a call from a state, with places instead of states."""
        if (place, number) in self.spread:
            return self.spread[(place, number)]
        return [((), self.replies[number][place], self.leads[number][place])]

    def met(self, place):
        """The shortest past to a state, and the falls of each of its calls."""
        row = []
        falls = []
        while place > 0:
            place, number, coins = self.origins[place]
            row.append(self.list_of_calls[number])
            falls.append(coins)
        return (row[::-1], falls[::-1])


def reach_of(vault, most):
    """All that can come of a vault; NoMost, TooMany."""
    check_most(most)
    reach = Reach(vault)
    starts = vault.starts()
    sizes = vault.sizes()
    place = 0
    while place < len(reach.found):
        state = reach.found[place]
        for number, start in enumerate(starts):
            put_ways(reach, place, number, ways_from(start, sizes, state))
            if len(reach.found) > most:
                raise TooMany(most)
        place += 1
    return reach


def put_ways(reach, place, number, ways):
    """Puts the outcomes of a call from a state into what was found."""
    told = []
    for coins, answer, state in ways:
        if state not in reach.places:
            reach.places[state] = len(reach.found)
            reach.found.append(state)
            reach.origins.append((place, number, coins))
        told.append((coins, answer, reach.places[state]))
    reach.replies[number].append(told[0][1])
    reach.leads[number].append(told[0][2])
    if len(told) > 1:
        reach.spread[(place, number)] = told
