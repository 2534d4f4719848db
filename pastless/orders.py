"""Orders: whether what two hands were told could as well have come of whole calls, one behind the other."""

from pastless.chains import Chains
from pastless.checks import call_numbers, check_most, check_plain, is_within
from pastless.ends import EndSets
from pastless.errors import NoRule
from pastless.plain import Plain
from pastless.scenes import Scenes
from pastless.weavings import woven_of

RULES = ("right", "rest", "moment")


def order(vault, weaving, *, cells=False):
    """An order of a weaving, with the cells if the flag is True; None if there is none."""
    woven = woven_of(vault, weaving)
    chains = Chains(vault, woven)
    last = last_state(vault, woven)
    for end in chains.found:
        if not cells or end[0] == last:
            return chains.order_to(end)
    return None


def last_state(vault, woven):
    """The state behind a weaving."""
    return woven.moments[-1][3] if len(woven.moments) > 0 else vault.first()


def order_fault(vault, weaving, thing, *, cells=False):
    """The first fault of a thing that is to be an order of a weaving; None if it has none."""
    woven = woven_of(vault, weaving)
    if not are_numbers(thing, len(woven.made)):
        return ("form",)
    listed = {number: True for number in thing}
    for number, over in enumerate(woven.over):
        if over is not None and number not in listed:
            return ("lack", number)
    fault = time_fault(woven, thing)
    return doing_fault(vault, woven, thing, cells) if fault is None else fault


def are_numbers(value, many):
    """Whether it is a list of unlike numbers of so many calls."""
    if not isinstance(value, list):
        return False
    for number in value:
        if not is_within(number, 0, many - 1):
            return False
    return len(set(value)) == len(value)


def time_fault(woven, numbers):
    """("time", i, j) for the least places such that the call at j was over ahead of the one at i; None if none are."""
    # For each place the first time at which some call from there on was answered.
    soonest = [len(woven.moments)]
    for number in reversed(numbers):
        over = woven.over[number]
        soonest.append(soonest[-1] if over is None else min(over, soonest[-1]))
    soonest.reverse()
    for one, number in enumerate(numbers):
        if soonest[one + 1] < woven.begins[number]:
            return ("time", one, over_before(woven, numbers, one))
    return None


def over_before(woven, numbers, one):
    """The least place behind this one of a call that was answered ahead of the beginning of the call here."""
    start = woven.begins[numbers[one]]
    place = one + 1
    while woven.over[numbers[place]] is None or woven.over[numbers[place]] > start:
        place += 1
    return place


def doing_fault(vault, woven, numbers, cells):
    """("answer", place) or ("cells",) if whole calls in this order answer or leave something else; None if not."""
    plain = Plain(vault)
    calls = call_numbers(vault)
    state = vault.first()
    for place, number in enumerate(numbers):
        answer, state = plain.way(state, calls[woven.made[number]])
        if woven.replies[number] is not None and woven.replies[number] != answer:
            return ("answer", place)
    return ("cells",) if cells and state != last_state(vault, woven) else None


def check_rule(vault, rule):
    """HasCoins, NoRule."""
    check_plain(vault)
    if not isinstance(rule, str) or rule not in RULES:
        raise NoRule()


def kept(vault, rule, weaving):
    """Whether a weaving and each beginning of it are as the rule says."""
    check_rule(vault, rule)
    woven = woven_of(vault, weaving)
    calls = call_numbers(vault)
    sets = EndSets(vault, Plain(vault))
    which = 0
    amid = [-1, -1]
    for index, (hand, number, answer, state, rest) in enumerate(woven.moments):
        if woven.begins[number] == index:
            amid[hand] = calls[woven.made[number]]
            which = sets.begun(which, hand, tuple(amid))
        if answer is not None:
            which = sets.answered(which, hand, answer)
        if not sets.is_kept(which, rule, state, rest):
            return False
    return True


def broken(vault, rule, *, most=20000):
    """A weaving that breaks the rule, as short as can be; None if none does."""
    check_rule(vault, rule)
    check_most(most)
    return Scenes(vault, rule, most).broken
