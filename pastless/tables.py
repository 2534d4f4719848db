"""Vaults that keep a wish in layouts that are told."""

from pastless.checks import are_states, check_sizes
from pastless.errors import NoLayouts, TooWide
from pastless.vaults import Vault

MOST_LAYOUTS = 16


def table_vault(wish, sizes, layouts):
    """A vault that keeps the wish, with the state of these layouts for each content."""
    check_sizes(sizes)
    if wish.many() > MOST_LAYOUTS:
        raise TooWide()
    if not are_layouts(wish, sizes, layouts):
        raise NoLayouts()
    deeds = []
    for name, choices in wish.deeds():
        deeds.append((name, choices, found_rows(wish, layouts, (name, choices), list(range(wish.many())))))
    return Vault(list(zip(sizes, layouts[0])), deeds)


def are_layouts(wish, sizes, value):
    """Whether it is a list with a state for each content, no two the same."""
    return are_states(sizes, value) and len(value) == wish.many() == len(set(value))


def found_rows(wish, layouts, deed, contents):
    """The rows that find out which of these contents the cells hold, and then do what the deed is to do there.

    What is done at a content ends with its answer: so no row behind it is done with other cells.
    """
    if len(contents) == 1:
        return content_rows(wish, layouts, deed, contents[0])
    cell = unlike_cell([layouts[content] for content in contents])
    parts = {}
    for content in contents:
        parts.setdefault(layouts[content][cell], []).append(content)
    rows = [("read", "a", cell)]
    for held in sorted(parts):
        rows.append(("if", ("=", "a", held), found_rows(wish, layouts, deed, parts[held]), ()))
    return tuple(rows)


def unlike_cell(states):
    """The first cell that does not hold the same in all the states."""
    cell = 0
    while len({state[cell] for state in states}) == 1:
        cell += 1
    return cell


def content_rows(wish, layouts, deed, content):
    """The rows that do at a content what a deed is to do, whatever its argument is."""
    name, choices = deed
    if choices == 1:
        return call_rows(wish, layouts, content, (name, 0))
    rows = []
    for argument in range(choices):
        rows.append(("if", ("=", "x", argument), call_rows(wish, layouts, content, (name, argument)), ()))
    return tuple(rows)


def call_rows(wish, layouts, content, call):
    """The rows that set the cells in which a call is to change the state, and answer."""
    old = layouts[content]
    new = layouts[wish.after(content, call)]
    rows = [("set", cell, new[cell]) for cell in range(len(old)) if old[cell] != new[cell]]
    return tuple(rows + [("answer", wish.answer(content, call))])
