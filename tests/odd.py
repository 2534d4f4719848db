"""Values of all kinds that are handed in where something else is asked for."""

from pastless.readers import Reader
from slow import V

READER = Reader(V, 1, 0, {(0, call): 0 for call in V.calls()}, [])


def nested(kind, levels=60):
    """Something nested so deep, in tuples, lists, dicts or tuples that have the same part twice."""
    value = 0
    for _ in range(levels):
        value = {"tuple": lambda: (value,), "list": lambda: [value], "dict": lambda: {"a": value},
                 "twice": lambda: (value, value), "row": lambda: ("if", 1, (value,), (value,)),
                 "sum": lambda: ("+", value, value)}[kind]()
    return value


DEEP = [nested(kind) for kind in ("tuple", "list", "dict", "twice", "row", "sum")]

PLAIN = [None, True, False, -1, 0, 1, 7, 10 ** 30, "", "a", "put", "x" * 60000, (), [], {}, (0,), [0], (0, 0), [[]], ((),),
         [()], {"a": 1}, {0: ()}, ("put",), ("put", 0), ("put", True), ["put", 0], ("put", 0, 0), ("none", 0), (0, "put"),
         [("put", 0)], (("put", 0),), (True,), (False, False), [(0, 1)], (0, 0, 0, 0, 0, 0, 0), ("table",), ("pasts",),
         ("table", [], []), ("pasts", [], [], []), ("table", None, None), ("table", [{}], []), V, [V], (V, V), READER,
         ([], 0), ({}, 0), (["put"], 0), (("put",), 0), ("put", []), ("put", {}), (V, 0), ("put", V), ([], [], []), ([("put", 0)], [()], [()])]

ODD = PLAIN + DEEP + [(value, 0) for value in DEEP] + [("put", value) for value in DEEP]


def same(one, other):
    """Whether the two are equal, flags being no integers."""
    if type(one) is not type(other):
        return False
    if isinstance(one, (tuple, list)):
        return len(one) == len(other) and all(map(same, one, other))
    return one == other


def odd_but(*good):
    """The odd values that are none of these."""
    return [value for value in ODD if not any(same(value, one) for one in good)]
