"""Facts of the past: what a reader says of it, and which states give that away."""

from pastless.checks import are_pairs, call_numbers, check_plain, check_state, is_row, is_state, is_tuple, is_within
from pastless.closures import Closure, state_pairs
from pastless.joins import joints_of
from pastless.likes import pairs_fault
from pastless.plain import Plain
from pastless.reach import reach_of
from pastless.readers import Reader
from pastless.runs import led
from pastless.sorts import Sorting
from pastless.standings import check_reader, said_of_all, standings_of, word_of
from pastless.sure import coming_place


def known(vault, reader, state, *, most=2000):
    """What is known of each past to a state: "yes", "no" or "open"."""
    check_reader(vault, reader)
    check_state(vault, state)
    reach, standings = standings_of(vault, reader, most)
    return word_of(standings.said[coming_place(reach, state)])


def known_held(vault, reader, state, *, most=2000):
    """What is known of each past to a state that is like this one: "yes", "no" or "open"."""
    check_reader(vault, reader)
    check_state(vault, state)
    reach, standings = standings_of(vault, reader, most)
    kind = Sorting(reach.replies, reach.leads).block
    own = kind[coming_place(reach, state)]
    likes = [place for place in range(len(kind)) if kind[place] == own]
    return word_of(said_of_all(standings.said, likes))


def told(vault, reader, *, most=2000):
    """What shows that a state gives away what a reader says; None if none does."""
    check_reader(vault, reader)
    reach, standings = standings_of(vault, reader, most)
    given = given_away(reach, standings.said)
    if given is None:
        return None
    place, other = given
    found = standings.trail.found
    listed = [(reach.found[one], stand) for one, stand in found]
    pairs = state_pairs(reach, Closure(reach, [(place, found[other][0])]))
    word = word_of(standings.said[place])
    return (reach.met(place)[0], word, listed, standings.trail.way_to(other), pairs)


def given_away(reach, said):
    """The first place at which one thing is said, though the other is said where the vault holds the same.

    It is a tuple of this place and the first of the trail's places where the other is said; None if there is none.
    """
    sorting = Sorting(reach.replies, reach.leads)
    held = {}
    for places in sorting.blocks():
        held[sorting.block[places[0]]] = said_of_all(said, places)
    for place, kind in enumerate(sorting.block):
        if len(said[place]) == 1 and len(held[kind]) == 2:
            return (place, held[kind][True not in said[place]])
    return None


def is_standing(vault, reader, value):
    """Whether it is a tuple of a state and a stand."""
    return is_tuple(value, 2) and is_state(vault.sizes(), value[0]) and is_within(value[1], 0, reader.many() - 1)


def are_standings(vault, reader, value):
    """Whether it is a list of tuples of a state and a stand."""
    if not isinstance(value, list):
        return False
    for standing in value:
        if not is_standing(vault, reader, standing):
            return False
    return True


def is_told_form(vault, reader, thing):
    """Whether it has the form of what `told` returns."""
    numbers = call_numbers(vault)
    if not is_tuple(thing, 5) or not is_row(numbers, thing[0]) or thing[1] not in ("yes", "no"):
        return False
    return are_standings(vault, reader, thing[2]) and is_row(numbers, thing[3]) and are_pairs(vault.sizes(), thing[4])


def told_fault(vault, reader, thing):
    """The first fault of a thing that is to show that a state gives away what a reader says; None if it has none."""
    check_reader(vault, reader)
    if not is_told_form(vault, reader, thing):
        return ("form",)
    past, word, standings, other, pairs = thing
    fault = standings_fault(vault, reader, standings)
    if fault is not None:
        return fault
    state = led(vault, past)
    for index, standing in enumerate(standings):
        if standing[0] == state and reader.marked(standing[1]) != (word == "yes"):
            return ("word", index)
    if reader.reads(other) == (word == "yes"):
        return ("other",)
    joints = joints_of(pairs)
    if not joints.joined(state, led(vault, other)):
        return ("like",)
    return pairs_fault(vault, pairs, joints)


def standings_fault(vault, reader, standings):
    """("first",) or ("behind", index, call) if the calls lead out of the standings; None if they do not."""
    listed = {standing: True for standing in standings}
    if (vault.first(), reader.first()) not in listed:
        return ("first",)
    plain = Plain(vault)
    calls = vault.calls()
    for index, (state, stand) in enumerate(standings):
        for number, call in enumerate(calls):
            if (plain.way(state, number)[1], reader.lead(stand, number)) not in listed:
                return ("behind", index, call)
    return None


def telling_reader(vault, *, most=2000):
    """A reader such that some state gives away what it says; None if there is none."""
    check_plain(vault)
    reach = reach_of(vault, most)
    blocks = Sorting(reach.replies, reach.leads).blocks()
    if len(blocks) == len(reach.found):
        return None
    # Its stands are the states themselves: so it says whether the cells are in this one, which others are like.
    mark = [places[0] for places in blocks if len(places) > 1][0]
    table = {}
    for number, call in enumerate(reach.list_of_calls):
        for place, behind in enumerate(reach.leads[number]):
            table[(place, call)] = behind
    return Reader(vault, len(reach.found), 0, table, [mark])
