"""Where a reader stands while a vault goes on."""

from pastless.checks import check_calls, check_plain
from pastless.reach import reach_of
from pastless.trails import Trail


class Standings:
    """The tuples of the state behind a past and the stand at which a reader is behind it [18].

    `trail` has them as tuples (place, stand) of the place of the state in `reach`. `said` has for each place a dict
    from what the reader says there, True or False, to the first of the trail's places where it does.
    """

    def __init__(self, reach, reader, most):
        self.trail = Trail((0, reader.first()), most)
        self.said = [{} for _ in reach.found]
        index = 0
        while index < len(self.trail.found):
            place, stand = self.trail.found[index]
            self.said[place].setdefault(reader.marked(stand), index)
            for number, call in enumerate(reach.list_of_calls):
                self.trail.put((reach.leads[number][place], reader.lead(stand, number)), index, call)
            index += 1


def word_of(said):
    """What is known of a state, or of several, at which all this is said."""
    if len(said) == 2:
        return "open"
    return "yes" if True in said else "no"


def said_of_all(said, places):
    """All that is said at some places, each with the first of the trail's places where it is."""
    found = {}
    for place in places:
        for flag, index in said[place].items():
            found[flag] = min(index, found.get(flag, index))
    return found


def check_reader(vault, reader):
    """HasCoins, OtherCalls."""
    check_plain(vault)
    check_calls(vault, reader.read_calls())


def standings_of(vault, reader, most):
    """All that can come of a vault, and where a reader stands meanwhile; NoMost, TooMany."""
    reach = reach_of(vault, most)
    return (reach, Standings(reach, reader, most))


def said_behind_looks(reach, reader, standings, states):
    """What is said of the pasts up to the last of several looks, at these states one behind the other."""
    found = standings.trail.found
    places = [reach.places[state] for state in states]
    leads = standing_leads(reach, reader, standings) if len(places) > 1 else []
    held = [index for index, standing in enumerate(found) if standing[0] == places[0]]
    # Whoever looks often sees the same again and again.
    known = {}
    for place in places[1:]:
        key = (tuple(held), place)
        if key not in known:
            known[key] = [index for index in reached(leads, held) if found[index][0] == place]
        held = known[key]
    return {reader.marked(found[index][1]): index for index in held}


def standing_leads(reach, reader, standings):
    """For each of the trail's places those to which the calls lead."""
    places = standings.trail.places
    leads = []
    for place, stand in standings.trail.found:
        behind = {}
        for number in range(len(reach.list_of_calls)):
            behind[places[(reach.leads[number][place], reader.lead(stand, number))]] = True
        leads.append(list(behind))
    return leads


def reached(leads, held):
    """The ascending list of the places that can be come to from these, by any leads, none or more."""
    seen = {index: True for index in held}
    due = list(held)
    while due:
        index = due.pop()
        for behind in leads[index]:
            if behind not in seen:
                seen[behind] = True
                due.append(behind)
    return sorted(seen)
