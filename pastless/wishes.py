"""Wishes: what a store is to answer, whatever cells it is kept in."""

from pastless.checks import call_number, check_calls, check_plain, is_tuple, is_within
from pastless.closures import Closure
from pastless.errors import NoCall, NoContent, NoWish, TooWide
from pastless.plain import Plan
from pastless.reach import reach_of
from pastless.sorts import Sorting
from pastless.sure import sure_reach
from pastless.trails import Trail
from pastless.vaults import MOST_DEEDS, is_deed_head

MOST_CONTENTS = 40
GREATEST_ANSWER = 9


class Wish:
    """A wish [25]. It does not change."""

    def __init__(self, deeds, table):
        if not are_wish_deeds(deeds):
            raise NoWish("deeds")
        self._deeds = tuple(deeds)
        self._numbers = {call: number for number, call in enumerate(calls_of(deeds))}
        if not is_wish_table(self._numbers, table):
            raise NoWish("table")
        self._many = len(table)
        self._replies = [[row[call][0] for row in table] for call in self._numbers]
        self._leads = [[row[call][1] for row in table] for call in self._numbers]
        if not do_all_come(self._many, self._leads):
            raise NoWish("far")
        if not Sorting(self._replies, self._leads).is_sorted_out():
            raise NoWish("like")

    def many(self):
        """The number of the contents."""
        return self._many

    def deeds(self):
        """The list of the deeds, tuples (name, choices)."""
        return list(self._deeds)

    def calls(self):
        """The list of all calls, by deed and then by argument."""
        return list(self._numbers)

    def answer(self, content, call):
        """What a call answers at a content."""
        return self._replies[self._number(content, call)][content]

    def after(self, content, call):
        """The content behind a call at a content."""
        return self._leads[self._number(content, call)][content]

    def ties(self):
        """The ascending list of the tuples (c, d), c less than d, such that a call leads from the one to the other."""
        found = {}
        for leads in self._leads:
            for content, behind in enumerate(leads):
                if content != behind:
                    found[(min(content, behind), max(content, behind))] = True
        return sorted(found)

    def shape(self):
        """The tuple of the deeds and the table, both as tuples."""
        columns = [list(zip(replies, leads)) for replies, leads in zip(self._replies, self._leads)]
        table = [tuple([column[content] for column in columns]) for content in range(self._many)]
        return (self._deeds, tuple(table))

    def _number(self, content, call):
        """The number of a call; NoContent, NoCall."""
        if not is_within(content, 0, self._many - 1):
            raise NoContent()
        number = call_number(self._numbers, call)
        if number < 0:
            raise NoCall()
        return number

    def __eq__(self, other):
        return isinstance(other, Wish) and self.shape() == other.shape()


def are_wish_deeds(deeds):
    """Whether these are the deeds of a wish."""
    if not isinstance(deeds, list) or not 1 <= len(deeds) <= MOST_DEEDS:
        return False
    for deed in deeds:
        if not is_deed_head(deed):
            return False
    return len({name for name, _ in deeds}) == len(deeds)


def calls_of(deeds):
    """The calls of these deeds, in their order."""
    return [(name, argument) for name, choices in deeds for argument in range(choices)]


def is_wish_table(numbers, table):
    """Whether it is a list of what all calls do at each content."""
    if not isinstance(table, list) or not 1 <= len(table) <= MOST_CONTENTS:
        return False
    for row in table:
        if not is_wish_row(numbers, row, len(table)):
            return False
    return True


def is_wish_row(numbers, row, many):
    """Whether it is a dict with just all calls, to tuples of an answer and one of so many contents."""
    if not isinstance(row, dict) or len(row) != len(numbers):
        return False
    for call, told in row.items():
        if call_number(numbers, call) < 0 or not is_tuple(told, 2):
            return False
        if not is_within(told[0], 0, GREATEST_ANSWER) or not is_within(told[1], 0, many - 1):
            return False
    return True


def do_all_come(many, leads):
    """Whether each of so many contents can come from the first one."""
    trail = Trail(0, many)
    index = 0
    while index < len(trail.found):
        for number, behind in enumerate(leads):
            trail.put(behind[trail.found[index]], index, number)
        index += 1
    return len(trail.found) == many


def wish_of(vault, *, most=2000):
    """The wish whose contents are those of the vault."""
    reach = sure_reach(vault, most)
    sorting = Sorting(reach.replies, reach.leads)
    blocks = sorting.blocks()
    if len(blocks) > MOST_CONTENTS:
        raise TooWide()
    contents = {sorting.block[places[0]]: content for content, places in enumerate(blocks)}
    table = []
    for places in blocks:
        row = {}
        for number, call in enumerate(reach.list_of_calls):
            behind = reach.leads[number][places[0]]
            row[call] = (reach.replies[number][places[0]], contents[sorting.block[behind]])
        table.append(row)
    return Wish([(name, vault.choices(name)) for name in vault.names()], table)


def unkept(vault, wish, *, most=2000):
    """A row of calls, as short as can be, behind which the vault answers otherwise than is wished; None if none is."""
    check_plain(vault)
    check_calls(vault, wish.calls())
    reach = reach_of(vault, most)
    closure = Closure(beside(reach, wish), [(0, len(reach.found))])
    if closure.row is None:
        return None
    return [reach.list_of_calls[number] for number in closure.row]


def beside(reach, wish):
    """The states that can come and, behind them, the contents of a wish, in one plan."""
    plan = Plan(len(reach.list_of_calls))
    contents = range(wish.many())
    many = len(reach.found)
    for number, call in enumerate(reach.list_of_calls):
        plan.replies[number] = reach.replies[number] + [wish.answer(content, call) for content in contents]
        plan.leads[number] = reach.leads[number] + [many + wish.after(content, call) for content in contents]
    return plan
