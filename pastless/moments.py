"""Looks at every moment: whether the cells tell no more in the middle of a call, either."""

from pastless.books import ShareMoves
from pastless.checks import call_number, call_numbers, check_plain, is_integer, is_row, is_tuple
from pastless.looks import is_pasts, is_table, past_paper, pasts_fault, table_fault
from pastless.plain import Plain
from pastless.reach import reach_of
from pastless.runs import led


def moment_paper(vault, *, most=2000):
    """What shows whether the vault is pastless at every moment."""
    check_plain(vault)
    paper = past_paper(vault, most=most)
    if paper[0] == "pasts":
        return paper
    # The shares of this table are those of the states that can come, in their order.
    shown = amid_of(vault, [list(share)[0] for share in paper[1]])
    if shown is None:
        return paper
    place, call, step = shown
    return ("amid", reach_of(vault, most).met(place)[0], call, step)


def amid_of(vault, states):
    """The first index of the states, and for it the first call and step, such that the step's state is neither.

    That is, neither the state ahead of the call nor the one behind it. None if there is no such step.
    """
    plain = Plain(vault)
    calls = vault.calls()
    for index, state in enumerate(states):
        for number, call in enumerate(calls):
            step = amid_step(plain, state, number)
            if step is not None:
                return (index, call, step)
    return None


def amid_step(plain, state, number):
    """The index of the first step of a call whose state is neither; None if there is none."""
    _, stops, behind = plain.whole(state, number)
    for step, stop in enumerate(stops):
        if stop not in (state, behind):
            return step
    return None


def is_amid(numbers, thing):
    """Whether it has the form of a step in the middle of a call."""
    if not is_tuple(thing, 4) or thing[0] != "amid" or not is_row(numbers, thing[1]):
        return False
    return call_number(numbers, thing[2]) >= 0 and is_integer(thing[3]) and thing[3] >= 0


def moment_fault(vault, thing):
    """The first fault of a thing that is to be what `moment_paper` returns; None if it has none."""
    check_plain(vault)
    numbers = call_numbers(vault)
    if is_table(vault, numbers, thing) and max([len(share) for share in thing[1]], default=1) == 1:
        return moment_table_fault(vault, thing)
    if is_pasts(vault, numbers, thing):
        return pasts_fault(vault, thing[1:], None)
    if is_amid(numbers, thing):
        return amid_fault(vault, thing)
    return ("form",)


def moment_table_fault(vault, thing):
    """The first fault of a table whose shares are of one state each; None if it has none."""
    fault = table_fault(vault, thing[1:], None, ShareMoves(vault, False))
    if fault is not None:
        return fault
    shown = amid_of(vault, [list(share)[0] for share in thing[1]])
    return None if shown is None else ("step",) + shown


def amid_fault(vault, thing):
    """("step",) if it is no step in the middle of a call; None if it is."""
    _, past, call, step = thing
    state = led(vault, past)
    _, stops, behind = Plain(vault).whole(state, call_numbers(vault)[call])
    if step >= len(stops) or stops[step] in (state, behind):
        return ("step",)
    return None
