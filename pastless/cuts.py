"""Losses of power: pasts in which calls are cut short, and what is left behind them."""

from pastless.books import alike_fault
from pastless.checks import (
    are_pairs, are_rows, are_states, call_number, call_numbers, check_most, check_plain, is_tuple, is_within)
from pastless.closures import Closure
from pastless.errors import NoRow
from pastless.joins import joints_of
from pastless.likes import pairs_fault
from pastless.plain import Plain, Plan
from pastless.sorts import Sorting
from pastless.trails import Trail


class Cuts:
    """The states behind cut pasts, in the order of [23], and what the calls do from each of them, by its place."""

    def __init__(self, vault, most):
        self.trail = Trail(vault.first(), most)
        self.plan = Plan(len(vault.calls()))
        self._plain = Plain(vault)
        place = 0
        while place < len(self.trail.found):
            for number, call in enumerate(vault.calls()):
                self._go(place, number, call)
            place += 1

    def _go(self, place, number, call):
        answer, stops, behind = self._plain.whole(self.trail.found[place], number)
        for step, stop in enumerate(stops):
            self.trail.put(stop, place, call if stop == behind else ("cut", call, step + 1))
        self.trail.put(behind, place, call)
        self.plan.replies[number].append(answer)
        self.plan.leads[number].append(self.trail.places[behind])


class CutTable:
    """A list of states that neither calls nor cuts leave; what it has is told at `books.Table`."""

    def __init__(self, vault, states):
        self.fault = None
        self.replies = [[] for _ in vault.calls()]
        self.leads = [[] for _ in vault.calls()]
        self._places = {}
        self._plain = Plain(vault)
        self.same = [self._places.setdefault(state, place) for place, state in enumerate(states)]
        if vault.first() not in self._places:
            self.fault = ("first",)
        place = 0
        while place < len(states) and self.fault is None:
            self._go(place, states[place], vault.calls())
            place += 1

    def _go(self, place, state, calls):
        for number, call in enumerate(calls):
            answer, stops, behind = self._plain.whole(state, number)
            for stop in stops + [behind]:
                if stop not in self._places:
                    self.fault = ("behind", place, call)
                    return
            self.replies[number].append(answer)
            self.leads[number].append(self._places[behind])


def cut_end(vault, row):
    """The tuple of the state behind a list and None, or of None and the index of its first item that cannot be made."""
    numbers = call_numbers(vault)
    plain = Plain(vault)
    state = vault.first()
    for index, item in enumerate(row):
        state = item_end(plain, numbers, state, item)
        if state is None:
            return (None, index)
    return (state, None)


def item_end(plain, numbers, state, item):
    """The state behind an item that is made from a state; None if it cannot be made."""
    number = call_number(numbers, item)
    if number >= 0:
        return plain.way(state, number)[1]
    if not is_tuple(item, 3) or item[0] != "cut":
        return None
    number = call_number(numbers, item[1])
    if number < 0:
        return None
    stops = [state] + plain.whole(state, number)[1]
    return stops[item[2]] if is_within(item[2], 0, len(stops) - 1) else None


def cut_led(vault, row):
    """The state behind a cut past."""
    check_plain(vault)
    if not isinstance(row, list):
        raise NoRow(-1)
    state, index = cut_end(vault, row)
    if index is not None:
        raise NoRow(index)
    return state


def cuts_of(vault, most):
    """All that can be behind cut pasts; HasCoins, NoMost, TooMany."""
    check_plain(vault)
    check_most(most)
    return Cuts(vault, most)


def cut_states(vault, *, most=2000):
    """The list of the states that can be behind cut pasts."""
    return list(cuts_of(vault, most).trail.found)


def cut_paper(vault, *, most=2000):
    """A table or two cut pasts that show whether what is held tells the state, whatever is cut short."""
    cuts = cuts_of(vault, most)
    found = cuts.trail.found
    sorting = Sorting(cuts.plan.replies, cuts.plan.leads)
    if sorting.is_sorted_out():
        calls = vault.calls()
        return ("table", list(found), [[calls[number] for number in row] for row in sorting.rows()])
    one, other = [places for places in sorting.blocks() if len(places) > 1][0][:2]
    pairs = [(found[s], found[t]) for s, t in Closure(cuts.plan, [(one, other)]).pairs]
    return ("pasts", cuts.trail.way_to(one), cuts.trail.way_to(other), pairs)


def is_cut_table(vault, numbers, thing):
    """Whether it has the form of a list of states and a book."""
    if not is_tuple(thing, 3) or thing[0] != "table":
        return False
    return are_states(vault.sizes(), thing[1]) and are_rows(numbers, thing[2])


def is_cut_pasts(vault, thing):
    """Whether it has the form of two cut pasts and a likeness."""
    if not is_tuple(thing, 4) or thing[0] != "pasts":
        return False
    return isinstance(thing[1], list) and isinstance(thing[2], list) and are_pairs(vault.sizes(), thing[3])


def cut_fault(vault, thing):
    """The first fault of a thing that is to be what `cut_paper` returns; None if it has none."""
    check_plain(vault)
    numbers = call_numbers(vault)
    if is_cut_table(vault, numbers, thing):
        table = CutTable(vault, thing[1])
        rows = [[numbers[call] for call in row] for row in thing[2]]
        return alike_fault(table, rows, {place: True for place in table.same}) if table.fault is None else table.fault
    if is_cut_pasts(vault, thing):
        return cut_pasts_fault(vault, thing)
    return ("form",)


def cut_pasts_fault(vault, thing):
    """The first fault of two cut pasts and a likeness that have their form; None if they have none."""
    ends = []
    for which in (0, 1):
        state, index = cut_end(vault, thing[1 + which])
        if index is not None:
            return ("past", which, index)
        ends.append(state)
    if ends[0] == ends[1]:
        return ("same",)
    joints = joints_of(thing[3])
    if not joints.joined(ends[0], ends[1]):
        return ("first",)
    return pairs_fault(vault, thing[3], joints)
