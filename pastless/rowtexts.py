"""Texts of rows of calls, weavings and states."""

from pastless.checks import GREATEST_SIZE, MOST_CELLS, is_tuple, is_within
from pastless.errors import NoRow, NoState, NoText, NoWeaving
from pastless.vaults import MOST_CHOICES, is_name
from pastless.words import number_in


def is_call(value):
    """Whether it is a call of some vault."""
    return is_tuple(value, 2) and is_name(value[0]) and is_within(value[1], 0, MOST_CHOICES - 1)


def call_in(words):
    """The call that two words tell; None if they tell none."""
    if len(words) != 2:
        return None
    call = (words[0], number_in(words[1]))
    return call if is_call(call) else None


def row_text(row):
    """The text of a row of calls: a line for each of them."""
    if not isinstance(row, list):
        raise NoRow(-1)
    lines = []
    for index, call in enumerate(row):
        if not is_call(call):
            raise NoRow(index)
        lines.append(f"{call[0]} {call[1]}")
    return "\n".join(lines)


def read_row(text):
    """The row of calls whose text it is."""
    return read_items(text, call_in)


def read_items(text, action):
    """The list of what a function finds in the words of each line; NoText if it finds None."""
    if not isinstance(text, str):
        raise NoText(-1)
    if text == "":
        return []
    items = []
    for index, line in enumerate(text.split("\n")):
        item = action(line.split(" "))
        if item is None:
            raise NoText(index)
        items.append(item)
    return items


def is_item(value):
    """Whether it is an item of a weaving of some vault."""
    if is_tuple(value, 3) and value[0] == "call":
        return is_within(value[1], 0, 1) and is_call(value[2])
    return is_tuple(value, 2) and value[0] == "step" and is_within(value[1], 0, 1)


def item_in(words):
    """The item of a weaving that words tell; None if they tell none."""
    if len(words) == 4 and words[0] == "call":
        item = ("call", number_in(words[1]), call_in(words[2:]))
    elif len(words) == 2:
        item = (words[0], number_in(words[1]))
    else:
        return None
    return item if is_item(item) else None


def weaving_text(weaving):
    """The text of a weaving: a line for each item."""
    if not isinstance(weaving, list):
        raise NoWeaving(-1)
    lines = []
    for index, item in enumerate(weaving):
        if not is_item(item):
            raise NoWeaving(index)
        if item[0] == "call":
            lines.append(f"call {item[1]} {item[2][0]} {item[2][1]}")
        else:
            lines.append(f"step {item[1]}")
    return "\n".join(lines)


def read_weaving(text):
    """The weaving whose text it is."""
    return read_items(text, item_in)


def is_any_state(value):
    """Whether it is a state of some vault."""
    if not isinstance(value, tuple) or not 1 <= len(value) <= MOST_CELLS:
        return False
    for held in value:
        if not is_within(held, 0, GREATEST_SIZE - 1):
            return False
    return True


def state_text(state):
    """The text of a state: what the cells hold, in one line."""
    if not is_any_state(state):
        raise NoState()
    return " ".join([str(held) for held in state])


def read_state(text):
    """The state whose text it is."""
    if not isinstance(text, str):
        raise NoText(-1)
    state = tuple([number_in(word) for word in text.split(" ")])
    if not is_any_state(state):
        raise NoText(0)
    return state
