"""One look: whether the cells tell more of the past than its content."""

from pastless.books import ShareMoves, Table, alike_fault
from pastless.checks import are_pairs, are_rows, call_numbers, check_plain, is_row, is_tuple
from pastless.clashes import Shares, Walk, plain_clash
from pastless.closures import Closure, state_pairs
from pastless.errors import NoNames
from pastless.joins import joints_of
from pastless.likes import pairs_fault
from pastless.runs import weights_behind
from pastless.shares import chances, is_share
from pastless.sorts import Sorting
from pastless.sure import sure_reach


def check_behind(vault, behind):
    """NoNames if it does not tell behind which deeds the cells are handed out; HasCoins."""
    if behind is None:
        return
    if not is_names(vault.names(), behind):
        raise NoNames()
    check_plain(vault)


def is_names(names, value):
    """Whether it is a list of one name or more, no two the same, out of the names."""
    if not isinstance(value, list) or len(value) == 0:
        return False
    for name in value:
        if name not in names:
            return False
    return len(set(value)) == len(value)


def pastless(vault, *, behind=None, most=2000):
    """Whether any two pasts that count and have one content have the same share."""
    check_behind(vault, behind)
    reach = sure_reach(vault, most)
    sorting = Sorting(reach.replies, reach.leads)
    if vault.has_coins():
        return Walk(Shares(reach, sorting.block), 0).clash is None
    return plain_clash(reach, sorting.block, behind) is None


def past_paper(vault, *, behind=None, most=2000):
    """A table or two pasts that show whether the vault is pastless."""
    check_behind(vault, behind)
    reach = sure_reach(vault, most)
    sorting = Sorting(reach.replies, reach.leads)
    if vault.has_coins():
        walk = Walk(Shares(reach, sorting.block), 0)
        clash = walk.clash
        shares = walk.found_weights()
    else:
        clash = plain_clash(reach, sorting.block, behind)
        shares = [{place: 1} for place in range(len(reach.found))]
    if clash is None:
        return table_paper(reach, shares, sorting.rows())
    one, other, start = clash
    return ("pasts", one, other, state_pairs(reach, Closure(reach, start)))


def table_paper(reach, shares, rows):
    """The paper of a vault that is pastless, of shares by places and of rows of numbers of calls."""
    states = [{reach.found[place]: weights[place] for place in weights} for weights in shares]
    book = [[reach.list_of_calls[number] for number in row] for row in rows]
    return ("table", [chances(weights) for weights in states], book)


def is_table(vault, numbers, thing):
    """Whether it has the form of a paper of a vault that is pastless."""
    if not is_tuple(thing, 3) or thing[0] != "table" or not isinstance(thing[1], list):
        return False
    sizes = vault.sizes()
    for share in thing[1]:
        if not is_share(sizes, share):
            return False
    return are_rows(numbers, thing[2])


def is_pasts(vault, numbers, thing):
    """Whether it has the form of a paper of a vault that is not pastless."""
    if not is_tuple(thing, 4) or thing[0] != "pasts":
        return False
    return is_row(numbers, thing[1]) and is_row(numbers, thing[2]) and are_pairs(vault.sizes(), thing[3])


def past_fault(vault, thing, *, behind=None):
    """The first fault of a thing that is to be what `past_paper` returns; None if it has none."""
    check_behind(vault, behind)
    numbers = call_numbers(vault)
    if is_table(vault, numbers, thing):
        return table_fault(vault, thing[1:], behind, ShareMoves(vault, False))
    if is_pasts(vault, numbers, thing):
        return pasts_fault(vault, thing[1:], behind)
    return ("form",)


def table_fault(vault, parts, behind, moves):
    """The first fault of a tuple of shares and a book that have their form; None if it has none."""
    shares, book = parts
    table = Table(vault, shares, moves)
    if table.fault is not None:
        return table.fault
    if behind is None:
        counted = {place: True for place in table.same}
    else:
        counted = {}
        for number, call in enumerate(vault.calls()):
            if call[0] in behind:
                for place in table.leads[number]:
                    counted[place] = True
    numbers = call_numbers(vault)
    return alike_fault(table, [[numbers[call] for call in row] for row in book], counted)


def pasts_fault(vault, pasts, behind):
    """The first fault of a tuple of two pasts and a list of pairs that have their form; None if it has none."""
    numbers = call_numbers(vault)
    shares = []
    for which in (0, 1):
        row = pasts[which]
        if behind is not None and (len(row) == 0 or row[-1][0] not in behind):
            return ("count", which)
        shares.append(weights_behind(vault, [numbers[call] for call in row]))
    if shares[0] == shares[1]:
        return ("same",)
    joints = joints_of(pasts[2])
    for one in sorted(shares[0]):
        for other in sorted(shares[1]):
            if not joints.joined(one, other):
                return ("first", one, other)
    return pairs_fault(vault, pasts[2], joints)
