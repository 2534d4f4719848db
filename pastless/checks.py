"""Whether values are integers, states, calls or rows of calls, and the errors if they are not."""

from pastless.errors import HasCoins, NoCall, NoMost, NoRow, NoSizes, NoState, OtherCalls

GREATEST_MOST = 100000
MOST_CELLS = 6
GREATEST_SIZE = 9


def is_integer(value):
    """Whether it is an integer; a flag is none."""
    return isinstance(value, int) and not isinstance(value, bool)


def is_within(value, least, greatest):
    """Whether it is an integer from the least to the greatest one."""
    return is_integer(value) and least <= value <= greatest


def is_tuple(value, length):
    """Whether it is a tuple of so many items."""
    return isinstance(value, tuple) and len(value) == length


def is_state(sizes, value):
    """Whether it is a state of cells of these sizes."""
    if not is_tuple(value, len(sizes)):
        return False
    for size, held in zip(sizes, value):
        if not is_within(held, 0, size - 1):
            return False
    return True


def are_states(sizes, value):
    """Whether it is a list of states of cells of these sizes."""
    if not isinstance(value, list):
        return False
    for state in value:
        if not is_state(sizes, state):
            return False
    return True


def is_pair(sizes, value):
    """Whether it is a tuple of two states of cells of these sizes."""
    return is_tuple(value, 2) and is_state(sizes, value[0]) and is_state(sizes, value[1])


def are_pairs(sizes, value):
    """Whether it is a list of tuples of two states."""
    if not isinstance(value, list):
        return False
    for pair in value:
        if not is_pair(sizes, pair):
            return False
    return True


def are_falls(falls):
    """Whether all items, of a list or a tuple, are 0 or 1."""
    for fall in falls:
        if not is_within(fall, 0, 1):
            return False
    return True


def call_numbers(vault):
    """The numbers of the calls, in their order, by the calls."""
    return {call: number for number, call in enumerate(vault.calls())}


def call_number(numbers, value):
    """The number of a call; -1 if the value is none."""
    # A dict would find (name, True) where it holds (name, 1), and fails for lists: so the kinds come first.
    if not is_tuple(value, 2) or not isinstance(value[0], str) or not is_integer(value[1]):
        return -1
    return numbers.get(value, -1)


def wrong_item(numbers, row):
    """The index of the first item of a list that is no call; None if there is none."""
    for index, item in enumerate(row):
        if call_number(numbers, item) < 0:
            return index
    return None


def is_row(numbers, value):
    """Whether it is a row of calls."""
    return isinstance(value, list) and wrong_item(numbers, value) is None


def are_rows(numbers, value):
    """Whether it is a list of rows of calls."""
    if not isinstance(value, list):
        return False
    for row in value:
        if not is_row(numbers, row):
            return False
    return True


def check_state(vault, state):
    """NoState if it is no state of the vault."""
    if not is_state(vault.sizes(), state):
        raise NoState()


def check_call(vault, call):
    """NoCall if it is no call of the vault."""
    if call_number(call_numbers(vault), call) < 0:
        raise NoCall()


def check_row(numbers, row):
    """NoRow if it is no row of the calls that are numbered."""
    if not isinstance(row, list):
        raise NoRow(-1)
    index = wrong_item(numbers, row)
    if index is not None:
        raise NoRow(index)


def check_plain(vault):
    """HasCoins if the vault has coins."""
    if vault.has_coins():
        raise HasCoins()


def check_calls(vault, calls):
    """OtherCalls if these are not the calls of the vault, in the same order."""
    if calls != vault.calls():
        raise OtherCalls()


def check_sizes(sizes):
    """NoSizes if these are not the sizes of some cells."""
    if not isinstance(sizes, tuple) or not 1 <= len(sizes) <= MOST_CELLS:
        raise NoSizes()
    for size in sizes:
        if not is_within(size, 1, GREATEST_SIZE):
            raise NoSizes()


def check_most(most):
    """NoMost if it does not say how much is looked at."""
    if not is_within(most, 1, GREATEST_MOST):
        raise NoMost()
