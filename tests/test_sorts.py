"""Sorting places by what rows of calls can tell of them, and telling them apart by a book."""

import random
import unittest

from pastless.books import kinds_told
from pastless.sorts import Sorting


def random_columns(dice):
    """Answers and places behind, by calls and places."""
    many, calls = dice.randrange(1, 30), dice.randrange(1, 4)
    spread = dice.choice([2, 2, 3, 30])
    replies = [[int(dice.randrange(spread) == 0) * dice.randrange(3) for _ in range(many)] for _ in range(calls)]
    leads = [[dice.randrange(many) for _ in range(many)] for _ in range(calls)]
    for number in range(calls):
        pick = dice.randrange(5)
        if pick == 0:
            leads[number] = list(range(many))
        elif pick == 1:
            leads[number] = [(place + 1) % many for place in range(many)]
        elif pick == 2:
            leads[number] = list(leads[0])
    return replies, leads


def slow_blocks(replies, leads):
    """The blocks by longer and longer rows."""
    places, calls = range(len(replies[0])), range(len(replies))
    kinds = [0 for _ in places]
    while True:
        told = [(kinds[place],) + tuple((replies[c][place], kinds[leads[c][place]]) for c in calls) for place in places]
        names = {key: at for at, key in enumerate(dict.fromkeys(told))}
        if len(names) == len(set(kinds)):
            break
        kinds = [names[key] for key in told]
    found = {}
    for place, kind in enumerate(kinds):
        found.setdefault(kind, []).append(place)
    return list(found.values())


def last_answer(replies, leads, place, row):
    for number in row:
        answer, place = replies[number][place], leads[number][place]
    return answer


class Sorts(unittest.TestCase):

    def test_blocks_and_rows(self):
        for seed in range(600):
            replies, leads = random_columns(random.Random(seed))
            sorting = Sorting(replies, leads)
            blocks = slow_blocks(replies, leads)
            self.assertEqual(sorting.blocks(), blocks)
            self.assertEqual(sorting.is_sorted_out(), all(len(block) == 1 for block in blocks))
            told = {}
            for block in blocks:
                for place in block:
                    key = tuple(last_answer(replies, leads, place, row) for row in sorting.rows())
                    self.assertEqual(told.setdefault(key, block), block)

    def test_the_greatest_part_moves(self):
        # By the first call 5 and 6 answer alike, and most of the others lead to them.
        replies = [[0, 0, 0, 0, 1, 2, 2], [0] * 7]
        leads = [list(range(7)), [5, 6, 5, 4, 4, 4, 4]]
        self.assertEqual(Sorting(replies, leads).blocks(), [[0, 1, 2], [3], [4], [5, 6]])
        for last in range(4):
            leads = [list(range(7)), [5 if place == last else 4 for place in range(4)] + [4, 4, 4]]
            self.assertEqual(len(Sorting(replies, leads).blocks()), 4)

    def test_kinds(self):
        for seed in range(300):
            dice = random.Random(seed)
            replies, leads = random_columns(dice)
            book = [[dice.randrange(len(leads)) for _ in range(dice.randrange(5))] for _ in range(dice.randrange(5))]
            told = [tuple(last_answer(replies, leads, place, row) for row in book if row) for place in range(len(leads[0]))]
            kinds = kinds_told(replies, leads, book)
            for one in range(len(told)):
                for other in range(one):
                    self.assertEqual(kinds[one] == kinds[other], told[one] == told[other])


if __name__ == "__main__":
    unittest.main()
