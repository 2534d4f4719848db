"""Finding one thing from another one, and the shortest way to each of them."""

from pastless.errors import TooMany


class Trail:
    """Things that are found, in the order in which they are; each is told by its place in `found`.

    Where the places are gone through in their order, the way to each thing is as short as can be.
    """

    def __init__(self, first, most):
        self.found = [first]
        self.places = {first: 0}
        self._origins = [(0, None)]
        self._limit = most

    def put(self, thing, before, item):
        """Puts a thing, if it is new, to which an item leads from the place `before`; TooMany beyond `most`."""
        if thing in self.places:
            return
        self.places[thing] = len(self.found)
        self.found.append(thing)
        self._origins.append((before, item))
        if len(self.found) > self._limit:
            raise TooMany(self._limit)

    def way_to(self, place):
        """The items that lead from the first thing to the one at a place."""
        items = []
        while place > 0:
            place, item = self._origins[place]
            items.append(item)
        return items[::-1]
