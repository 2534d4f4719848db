"""Where a reader stands while a vault goes on."""

from pastless.checks import check_calls, check_plain
from pastless.reach import reach_of
from pastless.trails import Trail


class Standings:
    """The tuples of the state behind a past and the stand at which a reader is behind it [18].

    `trail` has them as tuples (place, stand) of the place of the state in `reach`. `said` has for each place a dict
    from what the reader says there, True or False, to the first of the trail's places where it does.
    """

    def __init__(self, reach, reader, most):
        self.trail = Trail((0, reader.first()), most)
        self.said = [{} for _ in reach.found]
        index = 0
        while index < len(self.trail.found):
            place, stand = self.trail.found[index]
            self.said[place].setdefault(reader.marked(stand), index)
            for number, call in enumerate(reach.list_of_calls):
                self.trail.put((reach.leads[number][place], reader.lead(stand, number)), index, call)
            index += 1


def word_of(said):
    """What is known of a state, or of several, at which all this is said."""
    if len(said) == 2:
        return "open"
    return "yes" if True in said else "no"


def said_of_all(said, places):
    """All that is said at some places, each with the first of the trail's places where it is."""
    found = {}
    for place in places:
        for flag, index in said[place].items():
            found[flag] = min(index, found.get(flag, index))
    return found


def check_reader(vault, reader):
    """HasCoins, OtherCalls."""
    check_plain(vault)
    check_calls(vault, reader.read_calls())


def standings_of(vault, reader, most):
    """All that can come of a vault, and where a reader stands meanwhile; NoMost, TooMany."""
    reach = reach_of(vault, most)
    return (reach, Standings(reach, reader, most))
