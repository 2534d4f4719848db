"""Coins, and more than one look: whether the cells tell no more, however often they are handed out."""

from pastless.books import ShareMoves
from pastless.checks import call_numbers, is_row, is_state, is_tuple
from pastless.clashes import Shares, Walk
from pastless.closures import Closure, state_pairs
from pastless.looks import is_pasts, is_table, pasts_fault, table_fault
from pastless.runs import share
from pastless.shares import chances
from pastless.sorts import Sorting
from pastless.sure import sure_reach
from pastless.trails import Trail
from pastless.vaults import begun


def forever(vault, *, most=2000):
    """Whether the vault is pastless, begun at whatever state can come."""
    reach = sure_reach(vault, most)
    sorting = Sorting(reach.replies, reach.leads)
    if not vault.has_coins():
        return sorting.is_sorted_out()
    return first_clash(reach, Shares(reach, sorting.block)) is None


def first_clash(reach, shares):
    """The first place from which the vault is not pastless, and the clash there; None if there is no such place."""
    passed = {}
    for place in range(len(reach.found)):
        if place not in passed:
            walk = Walk(shares, place)
            if walk.clash is not None:
                return (place, walk.clash)
            # Where a past is sure to lead to one state, its pasts are those of the vault that was gone through.
            for weights in walk.found_weights():
                if len(weights) == 1:
                    passed[list(weights)[0]] = True
    return None


def forever_paper(vault, *, most=2000):
    """Tables, or pasts behind a look, that show whether the vault is pastless for ever."""
    reach = sure_reach(vault, most)
    sorting = Sorting(reach.replies, reach.leads)
    shares = Shares(reach, sorting.block)
    found = first_clash(reach, shares)
    if found is None:
        return ("tables", tables_of(reach, sorting, shares))
    place, clash = found
    pairs = state_pairs(reach, Closure(reach, clash[2]))
    return ("looks", reach.met(place)[0], reach.found[place], clash[0], clash[1], pairs)


def tables_of(reach, sorting, shares):
    """The tables of a vault that is pastless for ever: for each state that can come its shares and a book."""
    columns = answer_columns(reach, sorting.tails)
    rows = [[reach.list_of_calls[number] for number in row] for row in sorting.rows()]
    told = {}
    tables = {}
    for place, state in enumerate(reach.found):
        found = Walk(shares, place).found
        for number in found:
            if number not in told:
                told[number] = state_share(reach, shares.weights[number])
        needed = parting_columns(columns, [list(shares.weights[number])[0] for number in found])
        # Each key gets lists and dicts of its own.
        parts = [{other: told[number][other] for other in told[number]} for number in found]
        tables[state] = (parts, [list(rows[index]) for index in needed])
    return tables


def state_share(reach, weights):
    """The share that has these weights by places."""
    return chances({reach.found[place]: weights[place] for place in weights})


def answer_columns(reach, tails):
    """For each tail of a sorting the last answers behind it, by places."""
    columns = []
    for number, behind in tails:
        if behind < 0:
            columns.append(reach.replies[number])
        else:
            columns.append([columns[behind][place] for place in reach.leads[number]])
    return columns


def parting_columns(columns, places):
    """The indexes of columns that are enough to tell the places from one another."""
    kinds = [0] * len(places)
    many = 1
    chosen = []
    index = 0
    while many < len(places):
        seen = {}
        column = columns[index]
        finer = [seen.setdefault((kind, column[place]), len(seen)) for kind, place in zip(kinds, places)]
        if len(seen) > many:
            chosen.append(index)
            kinds = finer
            many = len(seen)
        index += 1
    return chosen


def are_tables(vault, numbers, value):
    """Whether it is a dict, not empty, from states to tuples of two items that have the form of tables."""
    if not isinstance(value, dict) or len(value) == 0:
        return False
    for state, parts in value.items():
        if not is_state(vault.sizes(), state) or not is_tuple(parts, 2):
            return False
        if not is_table(vault, numbers, ("table",) + parts):
            return False
    return True


def are_looks(vault, numbers, thing):
    """Whether it has the form of pasts behind a look."""
    if not is_tuple(thing, 6) or thing[0] != "looks" or not is_row(numbers, thing[1]):
        return False
    return is_state(vault.sizes(), thing[2]) and is_pasts(vault, numbers, ("pasts",) + thing[3:])


def forever_fault(vault, thing):
    """The first fault of a thing that is to be what `forever_paper` returns; None if it has none."""
    numbers = call_numbers(vault)
    if is_tuple(thing, 2) and thing[0] == "tables" and are_tables(vault, numbers, thing[1]):
        return tables_fault(vault, thing[1])
    if not are_looks(vault, numbers, thing):
        return ("form",)
    if thing[2] not in share(vault, thing[1]):
        return ("past",)
    fault = pasts_fault(begun(vault, thing[2]), thing[3:], None)
    return None if fault is None else ("pasts", fault)


def tables_fault(vault, tables):
    """The first fault of tables that have their form; None if they have none."""
    if vault.first() not in tables:
        return ("first",)
    moves = ShareMoves(vault, True)
    for state in sorted(tables):
        fault = table_fault(begun(vault, state), tables[state], None, moves)
        if fault is not None:
            return ("table", state, fault)
        for part in tables[state][0]:
            for other in part:
                if other not in tables:
                    return ("lack", state)
    return None


def returns(vault, *, most=2000):
    """Whether from each state that can come some row of calls can lead to a state that is like the first one."""
    reach = sure_reach(vault, most)
    kind = Sorting(reach.replies, reach.leads).block
    ahead = {}
    for leads in reach.leads:
        for place, behind in enumerate(leads):
            ahead.setdefault(kind[behind], {})[kind[place]] = True
    # The contents from which the first one can be come to, gone through from the first one backwards.
    many = len(set(kind))
    trail = Trail(kind[0], many)
    index = 0
    while index < len(trail.found):
        sources = list(ahead.get(trail.found[index], {}))
        for before in sources:
            trail.put(before, index, None)
        index += 1
    return len(trail.found) == many
