"""What DOC.md says in [18] to [24], worked out slowly and plainly; and readers to try it on."""

import itertools

from pastless.readers import Reader
from slow import Slow, contents, joined_groups, last_answer, outcomes, pairs_fault, states


def after(vault, state, call):
    return outcomes(vault, state, call)[0][2]


def end(vault, row):
    state = vault.first()
    for call in row:
        state = after(vault, state, call)
    return state


def made_reader(dice, vault):
    """A reader of a vault, made with dice."""
    many = dice.randrange(1, 5)
    table = {(stand, call): dice.randrange(many) for stand in range(many) for call in vault.calls()}
    return Reader(vault, many, dice.randrange(many), table, [stand for stand in range(many) if dice.random() < 0.5])


def standings(vault, reader):
    """All tuples of the state behind a past and the stand of the reader behind it."""
    found = [(vault.first(), reader.first())]
    for state, stand in found:
        for call in vault.calls():
            both = (after(vault, state, call), reader.after(stand, call))
            if both not in found:
                found.append(both)
    return found


def word(vault, reader, held):
    said = {reader.marked(stand) for state, stand in standings(vault, reader) if state in held}
    return {(True,): "yes", (False,): "no"}.get(tuple(said), "open")


def known(vault, reader, state):
    return word(vault, reader, [state])


def like(vault, state):
    return next(content for content in contents(vault) if state in content)


def known_held(vault, reader, state):
    return word(vault, reader, like(vault, state))


def giving(vault, reader):
    """The states that give away what the reader says."""
    return [state for state in states(vault) if known(vault, reader, state) != "open" == known_held(vault, reader, state)]


def told_fault(vault, reader, thing):
    """Of what has the form."""
    past, said, listed, other, pairs = thing
    if (vault.first(), reader.first()) not in listed:
        return ("first",)
    for index, (state, stand) in enumerate(listed):
        for call in vault.calls():
            if (after(vault, state, call), reader.after(stand, call)) not in listed:
                return ("behind", index, call)
    for index, (state, stand) in enumerate(listed):
        if state == end(vault, past) and reader.marked(stand) is not (said == "yes"):
            return ("word", index)
    if reader.reads(other) is (said == "yes"):
        return ("other",)
    if not joined_groups(pairs)(end(vault, past), end(vault, other)):
        return ("like",)
    return pairs_fault(vault, pairs)


def left_of(row, struck):
    return [call for call in row if call not in struck]


def struck_pairs(vault, struck):
    """The tuples of the states behind a past and what is left of it, with the length of the shortest such past."""
    found = {(vault.first(), vault.first()): 0}
    due = list(found)
    for s, t in due:
        for call in vault.calls():
            both = (after(vault, s, call), t if call in struck else after(vault, t, call))
            if both not in found:
                found[both] = found[(s, t)] + 1
                due.append(both)
    return found


def showing_length(vault, struck, close):
    """The length of the shortest past for which the struck calls are not as if they had never been; None."""
    found = struck_pairs(vault, struck)
    return min([found[both] for both in found if after(vault, both[0], close) != after(vault, both[1], close)], default=None)


def never_fault(vault, struck, close, thing):
    """Of what has the form."""
    if thing[0] == "shows":
        same = end(vault, thing[1] + [close]) == end(vault, left_of(thing[1], struck) + [close])
        return ("same",) if same else None
    if (vault.first(), vault.first()) not in thing[1]:
        return ("first",)
    for index, (s, t) in enumerate(thing[1]):
        for call in vault.calls():
            if (after(vault, s, call), t if call in struck else after(vault, t, call)) not in thing[1]:
                return ("behind", index, call)
    for index, (s, t) in enumerate(thing[1]):
        if after(vault, s, close) != after(vault, t, close):
            return ("close", index)
    return None


def stops(vault, state, call):
    """The states behind the steps of a call."""
    return [step[3] for step in Slow(vault, state, call, ()).steps]


def first_amid(vault, state):
    """The tuple of the first call and step behind which the state is neither of the two; None."""
    for call in vault.calls():
        for step, stop in enumerate(stops(vault, state, call)):
            if stop != state and stop != after(vault, state, call):
                return (call, step)
    return None


def amid_length(vault):
    """The length of the shortest past to a state at which a call shows something amid; None."""
    layer, seen, length = [vault.first()], [], 0
    while layer:
        if any(first_amid(vault, state) for state in layer):
            return length
        seen += layer
        coming = [after(vault, state, call) for state in layer for call in vault.calls()]
        layer = [state for at, state in enumerate(coming) if state not in seen and state not in coming[:at]]
        length += 1
    return None


def cut_states(vault):
    found = [vault.first()]
    for state in found:
        for call in vault.calls():
            for stop in stops(vault, state, call) + [after(vault, state, call)]:
                if stop not in found:
                    found.append(stop)
    return found


def cut_end(vault, row):
    """The tuple of the state behind a cut past and None, or of None and the index of the item that cannot be made."""
    state = vault.first()
    for index, item in enumerate(row):
        if item in vault.calls():
            state = after(vault, state, item)
        elif isinstance(item, tuple) and len(item) == 3 and item[0] == "cut" and item[1] in vault.calls():
            ends = [state] + stops(vault, state, item[1])
            if type(item[2]) is not int or not 0 <= item[2] < len(ends):
                return (None, index)
            state = ends[item[2]]
        else:
            return (None, index)
    return (state, None)


def parts(vault, s, t):
    """Whether some row of calls parts two states."""
    due = [(s, t)]
    for one, other in due:
        for call in vault.calls():
            if outcomes(vault, one, call)[0][1] != outcomes(vault, other, call)[0][1]:
                return True
            both = (after(vault, one, call), after(vault, other, call))
            if both not in due:
                due.append(both)
    return False


def has_cut_table(vault):
    return all(parts(vault, s, t) for s, t in itertools.combinations(cut_states(vault), 2))


def cut_fault(vault, thing):
    """Of what has one of the two forms."""
    if thing[0] == "pasts":
        ends = []
        for which in (0, 1):
            state, index = cut_end(vault, thing[1 + which])
            if index is not None:
                return ("past", which, index)
            ends.append(state)
        if ends[0] == ends[1]:
            return ("same",)
        return ("first",) if not joined_groups(thing[3])(*ends) else pairs_fault(vault, thing[3])
    if vault.first() not in thing[1]:
        return ("first",)
    for index, state in enumerate(thing[1]):
        for call in vault.calls():
            if any(stop not in thing[1] for stop in stops(vault, state, call) + [after(vault, state, call)]):
                return ("behind", index, call)
    for i, j in itertools.combinations(range(len(thing[1])), 2):
        one, other = thing[1][i], thing[1][j]
        if one != other and all(last_answer(vault, {one: 1}, row) == last_answer(vault, {other: 1}, row) for row in thing[2] if row):
            return ("alike", i, j)
    return None
