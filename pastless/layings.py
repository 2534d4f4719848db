"""Layings: states for the contents of a wish such that each call has just one cell to change."""

from pastless.boards import Board, are_apart, unlike_cells
from pastless.checks import are_states, check_sizes, is_tuple, is_within
from pastless.errors import NoSize, TooWide

MOST_LAID = 8
MOST_ROOM = 5
WIDEST_CROWD = 16
LEAST_SIZE = 2
GREATEST_SIZE = 6


def board_of(wish, sizes):
    """The board of a wish and of sizes; NoSizes, TooWide."""
    check_sizes(sizes)
    if wish.many() > MOST_LAID or sum(sizes) - len(sizes) > MOST_ROOM:
        raise TooWide()
    return Board(wish, sizes)


def laid(wish, sizes):
    """A laying of a wish on cells of these sizes, or a tree that bars every one."""
    board = board_of(wish, sizes)
    for content in range(wish.many()):
        if board.is_crowd(content):
            return ("barred", ("crowd", content))
    found = tried(board, {0: (0,) * len(sizes)})
    return found if found[0] == "laid" else ("barred", found)


def tried(board, states):
    """A laying in which the contents that are laid are where they are, or a tree that bars every one."""
    if len(states) == len(board.tied):
        return ("laid", [states[content] for content in range(len(states))])
    content = narrowest(board, states)
    beside = board.hosts(states, content)[0]
    branches = []
    for state in board.near(states[beside]):
        branch = board.refusal(states, content, state)
        if branch is None:
            branch = tried(board, {**states, content: state})
            if branch[0] == "laid":
                return branch
        branches.append(branch)
    return ("place", content, beside, branches)


def narrowest(board, states):
    """The content, out of those that are not laid and tied to one that is, with the fewest states to lay it at."""
    best = None
    for content in range(len(board.tied)):
        hosts = board.hosts(states, content)
        if content not in states and len(hosts) > 0:
            near = board.near(states[hosts[0]])
            free = len([state for state in near if board.refusal(states, content, state) is None])
            if best is None or free < best[0]:
                best = (free, content)
    return best[1]


def laid_fault(wish, sizes, thing):
    """The first fault of a thing that is to be what `laid` returns; None if it has none."""
    board = board_of(wish, sizes)
    if not is_tuple(thing, 2):
        return ("form",)
    if thing[0] == "laid" and are_states(sizes, thing[1]):
        return laying_fault(wish, thing[1])
    if thing[0] != "barred":
        return ("form",)
    path = tree_fault(board, {0: (0,) * len(sizes)}, thing[1])
    return None if path is None else ("tree", path)


def laying_fault(wish, states):
    """The first fault of a list of states that is to be a laying; None if it has none."""
    if len(states) != wish.many():
        return ("many",)
    for one in range(len(states)):
        for other in range(one + 1, len(states)):
            if states[one] == states[other]:
                return ("same", one, other)
    for one, other in wish.ties():
        if unlike_cells(states[one], states[other]) != 1:
            return ("apart", one, other)
    return None


def tree_fault(board, states, thing):
    """The path to the first place that is wrong in what is to be a tree; None if it is one."""
    last = len(board.tied) - 1
    if is_tuple(thing, 2) and thing[0] == "crowd":
        return None if is_within(thing[1], 0, last) and board.is_crowd(thing[1]) else []
    if not is_place(board, states, thing):
        return []
    _, content, beside, branches = thing
    for index, state in enumerate(board.near(states[beside])):
        if not is_refusal(board, states, content, state, branches[index]):
            path = tree_fault(board, {**states, content: state}, branches[index])
            if path is not None:
                return [index] + path
    return None


def is_place(board, states, thing):
    """Whether its own parts are those of a "place", with as many branches as there are to be."""
    if not is_tuple(thing, 4) or thing[0] != "place" or not isinstance(thing[3], list):
        return False
    last = len(board.tied) - 1
    if not is_within(thing[1], 0, last) or not is_within(thing[2], 0, last):
        return False
    return thing[1] not in states and thing[2] in board.hosts(states, thing[1]) and len(thing[3]) == board.room()


def is_refusal(board, states, content, state, branch):
    """Whether it is a branch "taken" or "apart" that is right where the content would be laid at this state."""
    if not is_tuple(branch, 2) or not is_within(branch[1], 0, len(board.tied) - 1) or branch[1] not in states:
        return False
    if branch[0] == "taken":
        return states[branch[1]] == state
    return branch[0] == "apart" and branch[1] in board.tied[content] and are_apart(states[branch[1]], state)


def crowd(wish):
    """An ascending list of as many contents as can be of which each two are tied."""
    if wish.many() > WIDEST_CROWD:
        raise TooWide()
    return largest(tied_contents(wish), [], list(range(wish.many())), [])


def tied_contents(wish):
    """For each content a dict with those that are tied to it."""
    tied = [{} for _ in range(wish.many())]
    for one, other in wish.ties():
        tied[one][other] = True
        tied[other][one] = True
    return tied


def largest(tied, chosen, rest, best):
    """The best list, or a larger one of the chosen contents and of some of the rest, of which each two are tied."""
    if len(chosen) > len(best):
        best = chosen
    for index, content in enumerate(rest):
        if len(chosen) + len(rest) - index <= len(best):
            return best
        best = largest(tied, chosen + [content], [other for other in rest[index + 1:] if other in tied[content]], best)
    return best


def least_cells(wish, size):
    """The least number of cells of this size on which the wish can be laid; None if there is none. NoSize, TooWide."""
    if not is_within(size, LEAST_SIZE, GREATEST_SIZE):
        raise NoSize()
    for many in range(1, MOST_ROOM // (size - 1) + 1):
        if laid(wish, (size,) * many)[0] == "laid":
            return many
    return None
