"""Texts of expressions and vaults."""

from pastless.bodies import CHANGED, DEEPEST_EXPRESSION, DEEPEST_ROW, FORMS, HELD, SIGNS, is_expression
from pastless.errors import NoExpression, NoText
from pastless.vaults import Vault, is_name
from pastless.words import number_in


def expression_text(e):
    """The text of an expression."""
    if not is_expression(e, 0):
        raise NoExpression()
    return text_of(e)


def text_of(e):
    """The text of what surely is an expression."""
    if isinstance(e, str):
        return e
    if isinstance(e, int):
        return str(e)
    sign, one, other = e
    return "(" + text_of(one) + sign + text_of(other) + ")"


def read_expression(text):
    """The expression whose text it is."""
    e = expression_in(text) if isinstance(text, str) else None
    if e is None:
        raise NoExpression()
    return e


def expression_in(word):
    """The expression whose text a string is; None if it is none."""
    found = expression_at(word, 0, 0)
    return found[0] if found is not None and found[1] == len(word) else None


def expression_at(text, place, deep):
    """The expression that begins at a place, within so many tuples, and the place behind it; None if none does."""
    sign = text[place:place + 1]
    if "0" <= sign <= "9":
        return (int(sign), place + 1)
    if sign in HELD:
        return (sign, place + 1)
    if sign != "(" or deep == DEEPEST_EXPRESSION:
        return None
    left = expression_at(text, place + 1, deep + 1)
    if left is None or text[left[1]:left[1] + 1] not in SIGNS:
        return None
    right = expression_at(text, left[1] + 1, deep + 1)
    if right is None or text[right[1]:right[1] + 1] != ")":
        return None
    return ((text[left[1]], left[0], right[0]), right[1] + 1)


def vault_text(vault):
    """The text of a vault."""
    cells, deeds = vault.shape()
    lines = [f"cell {size} {first}" for size, first in cells]
    for name, choices, body in deeds:
        lines.append(f"deed {name} {choices}")
        put_lines(lines, body)
    return "\n".join(lines)


def put_lines(lines, rows):
    """Puts the lines of rows to the others."""
    for row in rows:
        form = FORMS[row[0]]
        words = [row[0]] + [text_of(part) for kind, part in zip(form, row[1:]) if kind != "ROWS"]
        lines.append(" ".join(words))
        parts = [part for kind, part in zip(form, row[1:]) if kind == "ROWS"]
        for index, part in enumerate(parts):
            if index > 0:
                lines.append("else")
            put_lines(lines, part)
        if len(parts) > 0:
            lines.append("end")


def value_in(kind, word):
    """The value that a word tells at a place of this kind in a row; None if it tells none."""
    if kind == "REG":
        return word if word in CHANGED else None
    if kind == "E":
        return expression_in(word)
    number = number_in(word)
    return number if number >= 0 else None


class Block:
    """A deed, or a row "if" or "times", while its rows are read.

    `head` is the tuple of what stands ahead of its rows. They are in so many `parts`: those in `over` are over, and
    `listed` has the rows of the one that is read now.
    """

    def __init__(self, head, parts):
        self.head = head
        self.parts = parts
        self.over = []
        self.listed = []

    def left(self):
        """How many parts are not over."""
        return self.parts - len(self.over)

    def turn(self):
        """Goes on to the next part."""
        self.over.append(tuple(self.listed))
        self.listed = []

    def whole(self):
        """The deed or the row, if all its parts are over."""
        return self.head + tuple(self.over)


class Draft:
    """What was read so far of a vault's text; `around` has the deed that is read now and the rows in it that are."""

    def __init__(self):
        self.cells = []
        self.around = []
        self._past = []

    def take(self, words):
        """Takes the words of the next line; whether it is of a form that is due."""
        if words[0] == "cell":
            return self._take_cell(words)
        if words[0] == "deed":
            return self._take_deed(words)
        if words == ["else"]:
            return self._take_else()
        if words == ["end"]:
            return self._take_end()
        return self._take_row(words)

    def deeds(self):
        """The list of the deeds."""
        found = list(self._past)
        for block in self.around:
            found.append(block.head + (tuple(block.listed),))
        return found

    def _take_cell(self, words):
        numbers = [number_in(word) for word in words[1:]]
        if len(self.around) > 0 or len(numbers) != 2 or min(numbers) < 0:
            return False
        self.cells.append((numbers[0], numbers[1]))
        return True

    def _take_deed(self, words):
        if len(self.around) > 1 or len(words) != 3 or not is_name(words[1]) or number_in(words[2]) < 0:
            return False
        self._past = self.deeds()
        self.around = [Block((words[1], number_in(words[2])), 1)]
        return True

    def _take_else(self):
        if len(self.around) <= 1 or self.around[-1].left() != 2:
            return False
        self.around[-1].turn()
        return True

    def _take_end(self):
        if len(self.around) <= 1 or self.around[-1].left() != 1:
            return False
        block = self.around.pop()
        block.turn()
        self.around[-1].listed.append(block.whole())
        return True

    def _take_row(self, words):
        form = FORMS.get(words[0])
        if form is None or not 1 <= len(self.around) <= DEEPEST_ROW:
            return False
        kinds = [kind for kind in form if kind != "ROWS"]
        if len(words) != 1 + len(kinds):
            return False
        head = (words[0],) + tuple([value_in(kind, word) for kind, word in zip(kinds, words[1:])])
        if None in head:
            return False
        if len(kinds) < len(form):
            self.around.append(Block(head, len(form) - len(kinds)))
        else:
            self.around[-1].listed.append(head)
        return True


def read_vault(text):
    """The vault whose text it is."""
    if not isinstance(text, str):
        raise NoText(-1)
    draft = Draft()
    lines = text.split("\n")
    for index, line in enumerate(lines):
        if not draft.take(line.split(" ")):
            raise NoText(index)
    if len(draft.around) > 1:
        raise NoText(len(lines))
    return Vault(draft.cells, draft.deeds())
