"""Editions: new vaults that take over the cells of old ones, and whether they hide what the old ones left."""

from pastless.books import alike_fault
from pastless.checks import are_pairs, are_rows, are_states, call_numbers, check_plain, is_row, is_tuple
from pastless.closures import Closure
from pastless.errors import OtherSizes, TooMany
from pastless.joins import joints_of
from pastless.likes import pairs_fault
from pastless.plain import Plain, Plan
from pastless.reach import reach_of
from pastless.runs import led
from pastless.sorts import Sorting
from pastless.vaults import begun


class Takeover:
    """The states that can be behind edition pasts, first those of the old vault; each is told by its place in `found`.

    `plan` has what the calls of the new vault do from each of them.
    """

    def __init__(self, reach, new, most):
        self.found = list(reach.found)
        self.plan = Plan(len(new.calls()))
        self._reach = reach
        self._places = dict(reach.places)
        self._origins = [None for _ in reach.found]
        self._limit = most
        plain = Plain(new)
        place = 0
        while place < len(self.found):
            for number, call in enumerate(new.calls()):
                answer, behind = plain.way(self.found[place], number)
                self._put(behind, place, call)
                self.plan.replies[number].append(answer)
                self.plan.leads[number].append(self._places[behind])
            place += 1

    def past_to(self, place):
        """The edition past to the state at a place: a row of calls of the old vault, and one of the new one."""
        row = []
        while self._origins[place] is not None:
            place, call = self._origins[place]
            row.append(call)
        return (self._reach.met(place)[0], row[::-1])

    def _put(self, state, before, call):
        if state in self._places:
            return
        self._places[state] = len(self.found)
        self.found.append(state)
        self._origins.append((before, call))
        if len(self.found) > self._limit:
            raise TooMany(self._limit)


class States:
    """A list of states that is to be closed under the calls of a vault; `same`, `replies`, `leads` as in `books.Table`.

    `fault` is the tuple (index, call) of the first state, and for it the first call, that leads out of it; or None.
    """

    def __init__(self, vault, states):
        self.fault = None
        self.replies = [[] for _ in vault.calls()]
        self.leads = [[] for _ in vault.calls()]
        self.places = {}
        self.same = [self.places.setdefault(state, place) for place, state in enumerate(states)]
        self._plain = Plain(vault)
        place = 0
        while place < len(states) and self.fault is None:
            self._go(place, states[place], vault.calls())
            place += 1

    def _go(self, place, state, calls):
        for number, call in enumerate(calls):
            answer, behind = self._plain.way(state, number)
            if behind not in self.places:
                self.fault = (place, call)
                return
            self.replies[number].append(answer)
            self.leads[number].append(self.places[behind])


def check_editions(old, new):
    """HasCoins, OtherSizes."""
    check_plain(old)
    check_plain(new)
    if old.sizes() != new.sizes():
        raise OtherSizes()


def edition_paper(old, new, *, most=2000):
    """A table or two edition pasts that show whether the new vault hides the old one's past."""
    check_editions(old, new)
    reach = reach_of(old, most)
    taken = Takeover(reach, new, most)
    sorting = Sorting(taken.plan.replies, taken.plan.leads)
    if sorting.is_sorted_out():
        calls = new.calls()
        book = [[calls[number] for number in row] for row in sorting.rows()]
        return ("table", list(reach.found), list(taken.found), book)
    one, other = [places for places in sorting.blocks() if len(places) > 1][0][:2]
    pairs = [(taken.found[s], taken.found[t]) for s, t in Closure(taken.plan, [(one, other)]).pairs]
    return ("pasts", taken.past_to(one), taken.past_to(other), pairs)


def is_edition_table(old, new, thing):
    """Whether it has the form of two lists of states and a book."""
    if not is_tuple(thing, 4) or thing[0] != "table" or not are_states(old.sizes(), thing[1]):
        return False
    return are_states(new.sizes(), thing[2]) and are_rows(call_numbers(new), thing[3])


def is_edition_past(old, new, value):
    """Whether it is a tuple of a row of calls of the old vault and one of the new one."""
    return is_tuple(value, 2) and is_row(call_numbers(old), value[0]) and is_row(call_numbers(new), value[1])


def are_edition_pasts(old, new, thing):
    """Whether it has the form of two edition pasts and a likeness."""
    if not is_tuple(thing, 4) or thing[0] != "pasts":
        return False
    if not is_edition_past(old, new, thing[1]) or not is_edition_past(old, new, thing[2]):
        return False
    return are_pairs(new.sizes(), thing[3])


def edition_fault(old, new, thing):
    """The first fault of a thing that is to be what `edition_paper` returns; None if it has none."""
    check_editions(old, new)
    if is_edition_table(old, new, thing):
        return edition_table_fault(old, new, thing[1:])
    if are_edition_pasts(old, new, thing):
        return edition_pasts_fault(old, new, thing[1:])
    return ("form",)


def edition_table_fault(old, new, parts):
    """The first fault of a tuple of two lists of states and a book that have their form; None if it has none."""
    olds, states, book = parts
    if old.first() not in olds:
        return ("first",)
    left = States(old, olds)
    if left.fault is not None:
        return ("old",) + left.fault
    listed = {state: True for state in states}
    for index, state in enumerate(olds):
        if state not in listed:
            return ("over", index)
    taken = States(new, states)
    if taken.fault is not None:
        return ("behind",) + taken.fault
    numbers = call_numbers(new)
    rows = [[numbers[call] for call in row] for row in book]
    return alike_fault(taken, rows, {place: True for place in taken.same})


def edition_pasts_fault(old, new, parts):
    """The first fault of a tuple of two edition pasts and a list of pairs that have their form; None if it has none."""
    one, other, pairs = parts
    state = edition_end(old, new, one)
    other_state = edition_end(old, new, other)
    if state == other_state:
        return ("same",)
    joints = joints_of(pairs)
    if not joints.joined(state, other_state):
        return ("first",)
    return pairs_fault(new, pairs, joints)


def edition_end(old, new, past):
    """The state behind an edition past."""
    return led(begun(new, led(old, past[0])), past[1])
