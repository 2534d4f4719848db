"""What a vault holds: the states that can come, whether it is sure, and which states are like."""

from pastless.checks import are_falls, call_numbers, check_state, is_row, is_tuple
from pastless.closures import closure_of
from pastless.reach import reach_of
from pastless.runs import Moves
from pastless.sorts import Sorting
from pastless.sure import coming_place, sure_reach, unsure_witness


def states(vault, *, most=2000):
    """The list of the states that can come."""
    return list(reach_of(vault, most).found)


def unsure(vault, *, most=2000):
    """None if the vault is sure; otherwise a row of calls and the falls of two pasts with two last answers."""
    return unsure_witness(reach_of(vault, most))


def is_falls_list(value, length):
    """Whether it is a list of so many tuples of falls."""
    if not isinstance(value, list) or len(value) != length:
        return False
    for falls in value:
        if not isinstance(falls, tuple) or not are_falls(falls):
            return False
    return True


def is_unsure_form(numbers, thing):
    """Whether it has the form of what `unsure` tells of a vault that is not sure."""
    if not is_tuple(thing, 3) or not is_row(numbers, thing[0]) or len(thing[0]) == 0:
        return False
    return is_falls_list(thing[1], len(thing[0])) and is_falls_list(thing[2], len(thing[0]))


def way_of(ways, falls):
    """The outcome for which just these falls are needed; None if others are."""
    for way in ways:
        if way[0] == falls:
            return way
    return None


def last_answer(vault, moves, row, falls):
    """The tuple of the first index at which other falls are needed, or None, and the last answer of the row."""
    state = vault.first()
    answer = None
    for index, number in enumerate(row):
        way = way_of(moves.ways(state, number), falls[index])
        if way is None:
            return (index, None)
        _, answer, state = way
    return (None, answer)


def unsure_fault(vault, thing):
    """The first fault of a thing that is to show that the vault is not sure; None if it has none."""
    numbers = call_numbers(vault)
    if not is_unsure_form(numbers, thing):
        return ("form",)
    moves = Moves(vault)
    row = [numbers[call] for call in thing[0]]
    answers = []
    for which in (0, 1):
        index, answer = last_answer(vault, moves, row, thing[1 + which])
        if index is not None:
            return ("falls", which, index)
        answers.append(answer)
    return ("same",) if answers[0] == answers[1] else None


def contents_of(vault, most):
    """All that can come of the vault, and the list of its contents as lists of places."""
    reach = sure_reach(vault, most)
    return (reach, Sorting(reach.replies, reach.leads).blocks())


def contents(vault, *, most=2000):
    """The list of the contents, each the list of its states."""
    reach, blocks = contents_of(vault, most)
    return [[reach.found[place] for place in block] for block in blocks]


def content(vault, state, *, most=2000):
    """The index of the content of a state."""
    check_state(vault, state)
    reach, blocks = contents_of(vault, most)
    place = coming_place(reach, state)
    return [index for index, block in enumerate(blocks) if place in block][0]


def parted(vault, one, other, *, most=2000):
    """A row of calls, as short as can be, that parts two states; None if they are like."""
    closure = closure_of(vault, one, other, most)[1]
    if closure.row is None:
        return None
    calls = vault.calls()
    return [calls[number] for number in closure.row]


def most_layouts(vault, *, most=2000):
    """The greatest number of states of one content."""
    return max([len(block) for block in contents_of(vault, most)[1]])
