"""The cheapest tokens at each index of data, on which the shortest parse rests."""

from bellows.copies.expand import distance_cost, length_cost, literal_cost
from bellows.copies.symbols import DISTANCE_COUNT, LEAST_LENGTH, MOST_LENGTH, distance_base

# A set of distances is an integer here, whose bit `d` tells whether the distance `d` is in it: so
# all distances are compared at once, which keeps long runs of equal bytes cheap.


class CheapestTokens:
    """For each index of data, the cheapest token of each size that stands for the bytes there."""

    def __init__(self, data, dictionary, letters, distances, window):
        self._literal_costs = [literal_cost(byte, letters) for byte in data]
        self._length_costs = [None] * LEAST_LENGTH
        for length in range(LEAST_LENGTH, MOST_LENGTH + 1):
            self._length_costs.append(length_cost(length, letters))
        self._stretches = _all_stretches(data, dictionary, distances, window)

    def options(self, index):
        """The tuples `(size, cost, distance)` of these tokens, by ascending size.

        The distance of a literal is 0. Of several copies of one size and cost, the one with the
        least distance is listed.
        """
        found = []
        if self._literal_costs[index] is not None:
            found.append((1, self._literal_costs[index], 0))
        length = LEAST_LENGTH
        for longest, cost, distance in self._stretches[index]:
            while length <= longest:
                if self._length_costs[length] is not None:
                    found.append((length, self._length_costs[length] + cost, distance))
                length += 1
        return found


def _all_stretches(data, dictionary, distances, window):
    """For each index of data, the list of its stretches.

    A stretch `(longest, cost, distance)` is about the copies whose length is at most `longest` and
    greater than in the stretch before it: the least cost that a distance has which gives such a
    copy, and the least distance with this cost.
    """
    values = list(dictionary) + data
    places = _places_from_end(values)
    groups = _distance_groups(distances, window)
    usable = sum([members for _, members in groups])
    found = []
    matches = []
    for place in reversed(range(len(dictionary), len(values))):
        same = places[values[place]] >> (len(values) - 1 - place)
        matches = _matches_before(matches, usable, same)
        found.append(_stretches(matches, groups))
    found.reverse()
    return found


def _places_from_end(values):
    """For each value, the set of its places, where the last place is 0.

    Counted like this, all places that lie before one of them are at their distances from it as soon
    as the places behind it are shifted out.
    """
    places = {}
    mark = 1
    for value in reversed(values):
        places[value] = places.get(value, 0) | mark
        mark <<= 1
    return places


def _distance_groups(distances, window):
    """The pairs of a cost and the set of the distances with this cost, the least cost first."""
    groups = {}
    for symbol in range(DISTANCE_COUNT):
        extra_bits, base = distance_base(symbol)
        cost = distance_cost(base, distances)
        if cost is not None and base <= window:
            after = min(window + 1, base + (1 << extra_bits))
            groups[cost] = groups.get(cost, 0) | ((1 << after) - (1 << base))
    return [(cost, groups[cost]) for cost in sorted(groups)]


def _matches_before(matches, usable, same):
    """The matches at a place, of which `matches` are those at the next place.

    A match `(longest, members)` is about the lengths that are at most `longest` and greater than in
    the match before it; its members are the distances that give copies of these lengths. At the
    distances in `same` stands the value of the place.
    """
    found = []
    for longest, members in [(0, usable)] + matches:
        kept = members & same
        if kept == 0 or (found and found[-1][0] == MOST_LENGTH):
            break
        if found and found[-1][1] == kept:
            found.pop()
        found.append((min(longest + 1, MOST_LENGTH), kept))
    return found


def _stretches(matches, groups):
    found = []
    level = 0
    for longest, members in matches:
        if longest >= LEAST_LENGTH:
            # Longer matches have fewer members, so none of them is in a group passed before.
            while members & groups[level][1] == 0:
                level += 1
            cost, group = groups[level]
            nearest = members & group
            found.append((longest, cost, (nearest & -nearest).bit_length() - 1))
    return found
