"""Shares [10], worked with as WEIGHTS: a dict from each state to a positive integer, without a common divisor above 1.

The chance of a state is its weight, divided by the sum of all; so equal shares have equal weights.
"""

from math import gcd, lcm

from pastless.checks import is_integer, is_state, is_tuple

# How many of sixteen equal parts an outcome gets that needs so many falls.
PARTS = (16, 8, 4, 2, 1)


def lowest(weights):
    """The weights without a common divisor above 1."""
    common = 0
    for weight in weights.values():
        common = gcd(common, weight)
    return {state: weights[state] // common for state in weights}


def moved(weights, ways):
    """The weights behind a call, `ways` being the dict of its outcomes from each of the states."""
    behind = {}
    for state in weights:
        for coins, _, after in ways[state]:
            behind[after] = behind.get(after, 0) + weights[state] * PARTS[len(coins)]
    return lowest(behind)


def chances(weights):
    """The share that has these weights."""
    total = sum(weights.values())
    share = {}
    for state in weights:
        common = gcd(weights[state], total)
        share[state] = (weights[state] // common, total // common)
    return share


def whole_of(share):
    """The least number of equal parts in which all chances of a share can be told."""
    whole = 1
    for _, parts in share.values():
        whole = lcm(whole, parts)
    return whole


def weights_of(share):
    """The weights of a share."""
    whole = whole_of(share)
    return {state: share[state][0] * (whole // share[state][1]) for state in share}


def is_share(sizes, value):
    """Whether it is a dict, not empty, from states to exact fractions whose sum is 1."""
    if not isinstance(value, dict) or len(value) == 0:
        return False
    for state, chance in value.items():
        if not is_state(sizes, state) or not is_chance(chance):
            return False
    return sum(weights_of(value).values()) == whole_of(value)


def is_chance(value):
    """Whether it is a tuple of two positive integers without a common divisor above 1."""
    if not is_tuple(value, 2) or not is_integer(value[0]) or not is_integer(value[1]):
        return False
    return value[0] > 0 and value[1] > 0 and gcd(value[0], value[1]) == 1


def weights_key(weights):
    """What two weights have in common if, and only if, they are equal; it can be a key."""
    return tuple(sorted([(state, weights[state]) for state in weights]))
