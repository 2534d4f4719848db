"""Vaults: programs that keep something in cells."""

from pastless.bodies import is_body
from pastless.checks import GREATEST_SIZE, MOST_CELLS, check_state, is_tuple, is_within
from pastless.codes import code_of
from pastless.errors import NoName, NoVault

MOST_DEEDS = 8
LONGEST_NAME = 8
MOST_CHOICES = 9


class Vault:
    """A vault [7]. It does not change."""

    def __init__(self, cells, deeds):
        if not isinstance(cells, list) or not are_cells(cells):
            raise NoVault("cells")
        if not isinstance(deeds, list) or not are_deeds(deeds, len(cells)):
            raise NoVault("deeds")
        self._cells = tuple(cells)
        self._deeds = tuple(deeds)
        self._codes = {name: code_of(body) for name, _, body in deeds}
        self._coins = has_row(self._codes, "coin")

    def sizes(self):
        """The tuple of the sizes of the cells."""
        return tuple([size for size, _ in self._cells])

    def first(self):
        """The first state."""
        return tuple([held for _, held in self._cells])

    def names(self):
        """The list of the names of the deeds."""
        return [name for name, _, _ in self._deeds]

    def choices(self, name):
        """The number of the arguments that a deed can have."""
        return self._deed(name)[1]

    def rows(self, name):
        """The body of a deed."""
        return self._deed(name)[2]

    def calls(self):
        """The list of all calls, by deed and then by argument."""
        return [(name, argument) for name, choices, _ in self._deeds for argument in range(choices)]

    def has_coins(self):
        """Whether a row "coin" stands anywhere in a body."""
        return self._coins

    def shape(self):
        """The tuple of the cells and the deeds, both as tuples."""
        return (self._cells, self._deeds)

    def starts(self):
        """For each call in order its code and its argument, which is what a run begins with."""
        return [(self._codes[name], argument) for name, argument in self.calls()]

    def _deed(self, name):
        for deed in self._deeds:
            if deed[0] == name:
                return deed
        raise NoName()

    def __eq__(self, other):
        return isinstance(other, Vault) and self._cells == other._cells and self._deeds == other._deeds


def has_row(codes, word):
    """Whether a row with this word stands in one of the codes."""
    for code in codes.values():
        for row in code:
            if row[0] == word:
                return True
    return False


def is_cell(value):
    """Whether it is a tuple (size, first) of a cell."""
    return is_tuple(value, 2) and is_within(value[0], 1, GREATEST_SIZE) and is_within(value[1], 0, value[0] - 1)


def are_cells(cells):
    """Whether these are the cells of a vault."""
    if not 1 <= len(cells) <= MOST_CELLS:
        return False
    for cell in cells:
        if not is_cell(cell):
            return False
    return True


def is_name(value):
    """Whether it is a string of 1 to 8 letters a to z."""
    if not isinstance(value, str) or not 1 <= len(value) <= LONGEST_NAME:
        return False
    for letter in value:
        if not "a" <= letter <= "z":
            return False
    return True


def is_deed_head(value):
    """Whether it is a tuple (name, choices) of a deed."""
    return is_tuple(value, 2) and is_name(value[0]) and is_within(value[1], 1, MOST_CHOICES)


def is_deed(value, cells):
    """Whether it is a tuple (name, choices, rows) of a deed of a vault with so many cells."""
    return is_tuple(value, 3) and is_deed_head(value[:2]) and is_body(value[2], cells)


def are_deeds(deeds, cells):
    """Whether these are the deeds of a vault with so many cells."""
    if not 1 <= len(deeds) <= MOST_DEEDS:
        return False
    taken = set()
    for deed in deeds:
        if not is_deed(deed, cells) or deed[0] in taken:
            return False
        taken.add(deed[0])
    return True


def is_shape(value):
    """Whether it is the shape of a vault."""
    if not is_tuple(value, 2) or not isinstance(value[0], tuple) or not isinstance(value[1], tuple):
        return False
    cells, deeds = value
    return are_cells(cells) and are_deeds(deeds, len(cells))


def vault_of(shape):
    """The vault with this shape."""
    if not is_shape(shape):
        raise NoVault("shape")
    return Vault(list(shape[0]), list(shape[1]))


def begun(vault, state):
    """The same vault with this state as its first one."""
    check_state(vault, state)
    return Vault(list(zip(vault.sizes(), state)), list(vault.shape()[1]))
