"""Choices: one state for each content, and what it takes to keep a vault in just these."""

from pastless.boards import unlike_cells
from pastless.checks import is_state
from pastless.errors import NoChoice, TooMany, TooWide
from pastless.holds import contents_of
from pastless.tables import MOST_LAYOUTS, table_vault
from pastless.wishes import wish_of

NO_WEIGHT = (0, 0)


class Chooser:
    """Looks for a choice with the least weight, and keeps it in `best`.

    `held` has the states of each content, and `ties` what `ties_of` tells. Contents with several states are LOOSE, the
    others firm. A loose content is weighed against the firm ones and against the loose ones ahead of it.
    """

    def __init__(self, held, ties):
        self.best = [states[0] for states in held]
        self._held = held
        self._chosen = list(self.best)
        self._least = None
        self._loose = [content for content, states in enumerate(held) if len(states) > 1]
        self._mutual = {content: [] for content in self._loose}
        firm_ties = {content: [] for content in self._loose}
        firm = NO_WEIGHT
        for one, other, many in ties:
            if one in self._mutual and other in self._mutual:
                self._mutual[other].append((one, many))
            elif other in self._mutual:
                firm_ties[other].append((one, many))
            elif one in self._mutual:
                firm_ties[one].append((other, many))
            else:
                firm = both(firm, tie_weight(self.best[one], self.best[other], many))
        # What each state of a loose content weighs against the firm ones, which stays the same.
        self._own = {}
        for content in self._loose:
            self._own[content] = [self._weigh(state, firm_ties[content]) for state in held[content]]
        self._choose(0, firm)

    def _weigh(self, state, others):
        """What a state weighs against other contents as they are chosen now."""
        found = NO_WEIGHT
        for other, many in others:
            found = both(found, tie_weight(state, self._chosen[other], many))
        return found

    def _choose(self, depth, so_far):
        """Chooses for the loose contents from this depth on; `so_far` is what all that is chosen already weighs."""
        if self._least is not None and so_far >= self._least:
            return
        if depth == len(self._loose):
            self._least = so_far
            self.best = list(self._chosen)
            return
        content = self._loose[depth]
        for state, own in zip(self._held[content], self._own[content]):
            self._chosen[content] = state
            mutual = self._weigh(state, self._mutual[content])
            self._choose(depth + 1, both(so_far, both(own, mutual)))


def both(one, other):
    """The weight of two parts together."""
    return (max(one[0], other[0]), one[1] + other[1])


def tie_weight(one, other, many):
    """The weight of so many calls that lead from the one to the other of two states."""
    unlike = unlike_cells(one, other)
    return (unlike, many * unlike)


def ties_of(reach, blocks):
    """The list of the tuples (one, other, many) of contents, one less than other, between which so many calls lead."""
    contents = {place: content for content, places in enumerate(blocks) for place in places}
    found = {}
    for content, places in enumerate(blocks):
        for leads in reach.leads:
            behind = contents[leads[places[0]]]
            if behind != content:
                pair = (min(content, behind), max(content, behind))
                found[pair] = found.get(pair, 0) + 1
    return [(one, other, many) for (one, other), many in found.items()]


def check_choice(vault, reach, blocks, choice):
    """NoChoice if it is not a list with one state of each content."""
    if not isinstance(choice, list) or len(choice) != len(blocks):
        raise NoChoice()
    sizes = vault.sizes()
    for places, state in zip(blocks, choice):
        if not is_state(sizes, state) or reach.places.get(state, -1) not in places:
            raise NoChoice()


def weight(vault, choice, *, most=2000):
    """The greatest number of cells that a call changes if the vault is kept in the chosen states, and their sum."""
    reach, blocks = contents_of(vault, most)
    check_choice(vault, reach, blocks, choice)
    found = NO_WEIGHT
    for one, other, many in ties_of(reach, blocks):
        found = both(found, tie_weight(choice[one], choice[other], many))
    return found


def best_choice(vault, *, most=2000):
    """A choice with the least greatest number of cells that a call changes, and of these one with the least sum."""
    reach, blocks = contents_of(vault, most)
    many = 1
    for places in blocks:
        many *= len(places)
        if many > most:
            raise TooMany(most)
    held = [[reach.found[place] for place in places] for places in blocks]
    return Chooser(held, ties_of(reach, blocks)).best


def tidied(vault, choice, *, most=2000):
    """A vault that answers as this one does and is kept in the chosen states."""
    reach, blocks = contents_of(vault, most)
    if len(blocks) > MOST_LAYOUTS:
        raise TooWide()
    check_choice(vault, reach, blocks, choice)
    return table_vault(wish_of(vault, most=most), vault.sizes(), choice)
