"""Readers: what says yes or no of the past."""

from pastless.checks import call_number, call_numbers, check_row, is_tuple, is_within
from pastless.errors import NoCall, NoReader, NoStand

MOST_STANDS = 100000


class Reader:
    """A reader of pasts [17]. It does not change."""

    def __init__(self, vault, many, first, table, marks):
        numbers = call_numbers(vault)
        if not is_within(many, 1, MOST_STANDS):
            raise NoReader("many")
        if not is_within(first, 0, many - 1):
            raise NoReader("first")
        if not is_table(table, many, numbers):
            raise NoReader("table")
        if not are_marks(marks, many):
            raise NoReader("marks")
        self._numbers = numbers
        self._many = many
        self._first = first
        self._leads = [[table[(stand, call)] for stand in range(many)] for call in numbers]
        self._marks = {stand: True for stand in marks}

    def many(self):
        """The number of the stands."""
        return self._many

    def first(self):
        """The stand at which it begins."""
        return self._first

    def after(self, stand, call):
        """The stand to which a call leads."""
        self._check_stand(stand)
        number = call_number(self._numbers, call)
        if number < 0:
            raise NoCall()
        return self._leads[number][stand]

    def marked(self, stand):
        """Whether the stand is a mark."""
        self._check_stand(stand)
        return stand in self._marks

    def reads(self, row):
        """Whether it says yes of a past."""
        check_row(self._numbers, row)
        stand = self._first
        for call in row:
            stand = self._leads[self._numbers[call]][stand]
        return stand in self._marks

    def read_calls(self):
        """The calls that it reads, in their order."""
        return list(self._numbers)

    def lead(self, stand, number):
        """The stand to which the call with a number leads."""
        return self._leads[number][stand]

    def _check_stand(self, stand):
        if not is_within(stand, 0, self._many - 1):
            raise NoStand()


def is_table_key(key, many, numbers):
    """Whether it is a tuple of a stand and a call."""
    return is_tuple(key, 2) and is_within(key[0], 0, many - 1) and call_number(numbers, key[1]) >= 0


def is_table(table, many, numbers):
    """Whether it is a dict with a stand for just each tuple of a stand and a call."""
    if not isinstance(table, dict) or len(table) != many * len(numbers):
        return False
    for key, stand in table.items():
        if not is_table_key(key, many, numbers) or not is_within(stand, 0, many - 1):
            return False
    return True


def are_marks(marks, many):
    """Whether it is an ascending list of unlike stands."""
    if not isinstance(marks, list):
        return False
    last = -1
    for stand in marks:
        if not is_within(stand, last + 1, many - 1):
            return False
        last = stand
    return True
