"""Calls that are struck: whether they are as if they had never been."""

from pastless.checks import are_pairs, call_numbers, check_call, check_plain, is_row, is_tuple
from pastless.errors import NoStruck
from pastless.plain import Plain
from pastless.reach import reach_of
from pastless.runs import led
from pastless.trails import Trail


def spared(row, calls):
    """The items of a list that are not in the other one."""
    return [item for item in row if item not in calls]


def check_struck(vault, calls, close):
    """HasCoins, NoStruck, NoCall."""
    check_plain(vault)
    if not is_row(call_numbers(vault), calls):
        raise NoStruck()
    check_call(vault, close)


def never(vault, calls, close, *, most=2000):
    """Pairs that show that the struck calls are as if they had never been, or a past for which they are not."""
    check_struck(vault, calls, close)
    reach = reach_of(vault, most)
    trail = struck_trail(reach, calls, most)
    closed = reach.leads[call_numbers(vault)[close]]
    for place, (one, other) in enumerate(trail.found):
        if closed[one] != closed[other]:
            return ("shows", trail.way_to(place))
    return ("never", [(reach.found[one], reach.found[other]) for one, other in trail.found])


def struck_trail(reach, calls, most):
    """The tuples of the places behind a past and behind what is left of it; TooMany."""
    struck = {call: True for call in calls}
    trail = Trail((0, 0), most)
    index = 0
    while index < len(trail.found):
        one, other = trail.found[index]
        for number, call in enumerate(reach.list_of_calls):
            leads = reach.leads[number]
            trail.put((leads[one], other if call in struck else leads[other]), index, call)
        index += 1
    return trail


def never_fault(vault, calls, close, thing):
    """The first fault of a thing that is to be what `never` returns; None if it has none."""
    check_struck(vault, calls, close)
    if is_tuple(thing, 2) and thing[0] == "never" and are_pairs(vault.sizes(), thing[1]):
        return never_pairs_fault(vault, calls, close, thing[1])
    if not is_tuple(thing, 2) or thing[0] != "shows" or not is_row(call_numbers(vault), thing[1]):
        return ("form",)
    whole = led(vault, thing[1] + [close])
    left = led(vault, spared(thing[1], calls) + [close])
    return ("same",) if whole == left else None


def never_pairs_fault(vault, calls, close, pairs):
    """The first fault of the pairs that are to show that the struck calls are as if they had never been."""
    listed = {pair: True for pair in pairs}
    if (vault.first(), vault.first()) not in listed:
        return ("first",)
    plain = Plain(vault)
    struck = {call: True for call in calls}
    for index, (one, other) in enumerate(pairs):
        for number, call in enumerate(vault.calls()):
            left = other if call in struck else plain.way(other, number)[1]
            if (plain.way(one, number)[1], left) not in listed:
                return ("behind", index, call)
    last = call_numbers(vault)[close]
    for index, (one, other) in enumerate(pairs):
        if plain.way(one, last)[1] != plain.way(other, last)[1]:
            return ("close", index)
    return None
