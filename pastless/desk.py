"""The desk: houses by names, and lines that work on them."""

from pastless.coins import forever
from pastless.errors import NoLine, NoName, NothingDone, PastError
from pastless.holds import contents
from pastless.houses import House
from pastless.looks import pastless
from pastless.moments import moment_paper
from pastless.rowtexts import state_text
from pastless.texts import read_vault, vault_text
from pastless.vaults import is_name
from pastless.words import number_in

# What stands behind the first word of a line.
LINES = {
    "open": ("NAME", "TEXT"),
    "shut": ("NAME",),
    "call": ("NAME", "NAME", "NUMBER", "FALLS"),
    "cut": ("NAME", "NAME", "NUMBER", "NUMBER", "FALLS"),
    "look": ("NAME",),
    "turn": ("NAME", "TEXT"),
    "show": ("NAME",),
    "holds": ("NAME",),
    "pastless": ("NAME",),
    "moments": ("NAME",),
    "forever": ("NAME",),
    "names": (),
    "undo": (),
}


def line_text(vault):
    """The text of a vault in one line."""
    return vault_text(vault).replace("\n", "|")


def content_count(vault):
    """The number of the contents."""
    return str(len(contents(vault)))


def yes_or_no(flag):
    """The word for a flag."""
    return "yes" if flag else "no"


def is_pastless(vault):
    """Whether the vault is pastless."""
    return yes_or_no(pastless(vault))


def is_pastless_at_moments(vault):
    """Whether the vault is pastless at every moment."""
    return yes_or_no(moment_paper(vault)[0] == "table")


def is_pastless_forever(vault):
    """Whether the vault is pastless for ever."""
    return yes_or_no(forever(vault))


# What is told of the vault of a house, by the first word of the line.
ASKED = {
    "show": line_text,
    "holds": content_count,
    "pastless": is_pastless,
    "moments": is_pastless_at_moments,
    "forever": is_pastless_forever,
}


class Desk:
    """A desk [43]. It begins without houses, and changes by its lines."""

    def __init__(self):
        self._houses = {}
        # What can be taken back, tuples (word, name, house): of an open or a shut the house that had the name ahead of
        # it, or None.
        self._done = []

    def tell(self, line):
        """Does what a line says; what it comes to."""
        word, values = values_of(line)
        if word == "names":
            return " ".join(sorted(self._houses)) if len(self._houses) > 0 else "none"
        if word == "undo":
            return self._undo()
        name = values[0]
        vault = read_vault(values[1].replace("|", "\n")) if word in ("open", "turn") else None
        if word == "open":
            return self._put(word, name, House(vault))
        if name not in self._houses:
            raise NoName()
        if word == "shut":
            return self._put(word, name, None)
        house = self._houses[name]
        if word in ASKED:
            action = ASKED[word]
            return action(house.vault())
        told = gone_on(house, word, values, vault)
        self._done.append((word, name, None))
        return told

    def undoable(self):
        """How many lines can be taken back."""
        return len(self._done)

    def _put(self, word, name, house):
        self._done.append((word, name, self._houses.get(name)))
        self._set(name, house)
        return "ok"

    def _set(self, name, house):
        """Gives a name to a house, or to none."""
        if house is not None:
            self._houses[name] = house
        else:
            del self._houses[name]

    def _undo(self):
        if len(self._done) == 0:
            raise NothingDone()
        word, name, before = self._done.pop()
        if word in ("open", "shut"):
            self._set(name, before)
        else:
            house = self._houses[name]
            house.back(1)
            # Between the lines no falls are told; but ahead of the item that is taken back they were.
            house.tell([])
        return "ok"


def gone_on(house, word, values, vault):
    """Does in a house what a line says that puts an item to its log; what it comes to."""
    if word == "look":
        return state_text(house.look())
    if word == "turn":
        house.edition(vault)
        return "ok"
    house.tell(values[-1])
    try:
        told = run_call(house, (values[1], values[2]), values[3:-1])
    except PastError:
        house.tell([])
        raise
    house.tell([])
    return told


def run_call(house, call, cuts):
    """Makes a call, or cuts it behind as many steps as the list tells, if it is not empty; what it comes to."""
    if len(cuts) == 0:
        return str(house.call(call))
    house.cut(call, cuts[0])
    return "ok"


def values_of(line):
    """The first word of a line and the list of what the others tell; NoLine."""
    if not isinstance(line, str) or "\n" in line:
        raise NoLine()
    word = line.partition(" ")[0]
    form = LINES.get(word)
    if form is None:
        raise NoLine()
    # A TEXT may be whatever is left, blanks too.
    words = line.split(" ", len(form)) if "TEXT" in form else line.split(" ")
    if len(words) != 1 + len(form):
        raise NoLine()
    values = [value_told(kind, part) for kind, part in zip(form, words[1:])]
    if None in values:
        raise NoLine()
    return (word, values)


def value_told(kind, word):
    """The value that a word tells at a place of this kind; None if it tells none."""
    if kind == "TEXT":
        return word
    if kind == "NAME":
        return word if is_name(word) else None
    if kind == "FALLS":
        return falls_in(word)
    number = number_in(word)
    return number if number >= 0 else None


def falls_in(word):
    """The list of the falls that a word tells; None if it tells none."""
    if word == "-":
        return []
    for sign in word:
        if sign not in ("0", "1"):
            return None
    return [int(sign) for sign in word] if len(word) > 0 else None
