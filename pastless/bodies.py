"""What a body may be: the forms of rows and expressions, and their bounds."""

from pastless.checks import is_integer, is_tuple, is_within

CHANGED = ("a", "b", "c", "d")
HELD = ("a", "b", "c", "d", "x")
SIGNS = ("+", "-", "*", "=", "<")

# What stands behind the word of a row.
FORMS = {
    "read": ("REG", "CELL"),
    "set": ("CELL", "E"),
    "swap": ("REG", "CELL", "E", "E"),
    "keep": ("REG", "E"),
    "coin": ("REG",),
    "if": ("E", "ROWS", "ROWS"),
    "times": ("E", "ROWS"),
    "answer": ("E",),
}

DEEPEST_EXPRESSION = 6
DEEPEST_ROW = 12
DEEPEST_TIMES = 2
MOST_COINS = 4
MOST_ROWS = 2000


class Tally:
    """What was counted of one body so far, and how many cells there are."""

    def __init__(self, cells):
        self.cells = cells
        self.coins = 0
        self.lines = 0


def is_expression(value, deep):
    """Whether it is an expression, if it stands within so many tuples of expressions."""
    if is_integer(value):
        return 0 <= value <= 9
    if isinstance(value, str):
        return value in HELD
    # The bound is looked at ahead of the parts, so that whatever is nested far deeper is not followed.
    if not is_tuple(value, 3) or deep == DEEPEST_EXPRESSION:
        return False
    sign, one, other = value
    return sign in SIGNS and is_expression(one, deep + 1) and is_expression(other, deep + 1)


def is_part(kind, value, deep, loops, tally):
    """Whether it is what may stand at a place of this kind in a row that is so deep."""
    if kind == "REG":
        return value in CHANGED
    if kind == "CELL":
        return is_within(value, 0, tally.cells - 1)
    if kind == "E":
        return is_expression(value, 0)
    return are_body_rows(value, deep + 1, loops, tally)


def is_body_row(row, deep, loops, tally):
    """Whether it is a row that may stand so deep, within so many "times"."""
    if not isinstance(row, tuple) or len(row) == 0 or not isinstance(row[0], str):
        return False
    form = FORMS.get(row[0])
    if form is None or len(row) != 1 + len(form):
        return False
    if row[0] == "coin":
        tally.coins += 1
        if loops > 0 or tally.coins > MOST_COINS:
            return False
    if row[0] == "times":
        loops += 1
        if loops > DEEPEST_TIMES:
            return False
    for kind, part in zip(form, row[1:]):
        if not is_part(kind, part, deep, loops, tally):
            return False
    return True


def are_body_rows(rows, deep, loops, tally):
    """Whether these are rows that may stand so deep, within so many "times"."""
    if not isinstance(rows, tuple):
        return False
    for row in rows:
        # Counted ahead of the row's parts: one tuple that stands in many places could be endless otherwise.
        tally.lines += 1
        if deep > DEEPEST_ROW or tally.lines > MOST_ROWS or not is_body_row(row, deep, loops, tally):
            return False
    return True


def is_body(rows, cells):
    """Whether it is the body of a deed of a vault with so many cells."""
    return are_body_rows(rows, 1, 0, Tally(cells))
