"""Likenesses: lists of pairs that show that states are like."""

from pastless.checks import are_pairs, check_state
from pastless.closures import closure_of, state_pairs
from pastless.joins import joints_of
from pastless.runs import Moves


def likeness(vault, one, other, *, most=2000):
    """A likeness in which the two states are joined; None if they are not like."""
    reach, closure = closure_of(vault, one, other, most)
    return None if closure.row is not None else state_pairs(reach, closure)


def likeness_fault(vault, one, other, thing):
    """The first fault of a thing that is to be a likeness in which the two states are joined; None if it has none."""
    check_state(vault, one)
    check_state(vault, other)
    if not are_pairs(vault.sizes(), thing):
        return ("form",)
    joints = joints_of(thing)
    if not joints.joined(one, other):
        return ("first",)
    return pairs_fault(vault, thing, joints)


def pairs_fault(vault, pairs, joints):
    """The first fault of a pair, ("answer", index, call) or ("pair", index, call); None if the pairs are a likeness."""
    moves = Moves(vault)
    calls = vault.calls()
    for index, (one, other) in enumerate(pairs):
        for number, call in enumerate(calls):
            ways = moves.ways(one, number) + moves.ways(other, number)
            if not is_one_answer(ways):
                return ("answer", index, call)
            if not are_joined(joints, ways):
                return ("pair", index, call)
    return None


def is_one_answer(ways):
    """Whether all outcomes have one and the same answer."""
    for way in ways:
        if way[1] != ways[0][1]:
            return False
    return True


def are_joined(joints, ways):
    """Whether the states behind all outcomes are joined.

    Those of the one state of a pair are each to be joined with those of the other one: so all are with one another.
    """
    for way in ways:
        if not joints.joined(way[2], ways[0][2]):
            return False
    return True
