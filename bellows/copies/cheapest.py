"""The cheapest tokens at each index of data, on which the shortest parse rests."""

from bellows.copies.expand import distance_cost, length_cost, literal_cost
from bellows.copies.matches import Matches, distances_from_to, least_distance
from bellows.copies.symbols import DISTANCE_COUNT, LEAST_LENGTH, MOST_LENGTH, distance_base


class CheapestTokens:
    """For each index of data, the cheapest token of each size that stands for the bytes there."""

    def __init__(self, data, dictionary, letters, distances, window):
        self._literal_costs = [literal_cost(byte, letters) for byte in data]
        self._length_costs = [None] * LEAST_LENGTH
        for length in range(LEAST_LENGTH, MOST_LENGTH + 1):
            self._length_costs.append(length_cost(length, letters))
        self._stretches = _all_stretches(data, dictionary, distances, window)

    def options(self, index):
        """The tuples `(size, cost, distance)` of these tokens, by ascending size.

        The distance of a literal is 0. Of several copies of one size and cost, the one with the
        least distance is listed.
        """
        found = []
        if self._literal_costs[index] is not None:
            found.append((1, self._literal_costs[index], 0))
        length = LEAST_LENGTH
        for longest, cost, distance in self._stretches[index]:
            while length <= longest:
                if self._length_costs[length] is not None:
                    found.append((length, self._length_costs[length] + cost, distance))
                length += 1
        return found


def _all_stretches(data, dictionary, distances, window):
    """For each index of data, the list of its stretches.

    A stretch `(longest, cost, distance)` is about the copies whose length is at most `longest` and
    greater than in the stretch before it: the least cost that a distance has which gives such a
    copy, and the least distance with this cost.
    """
    groups = _distance_groups(distances, window)
    usable = sum([members for _, members in groups])
    matches = Matches(list(dictionary) + data, usable)
    found = []
    for _ in range(len(data)):
        found.append(_stretches(matches.before(), groups))
    found.reverse()
    return found


def _distance_groups(distances, window):
    """The pairs of a cost and the set of the distances with this cost, the least cost first."""
    groups = {}
    for symbol in range(DISTANCE_COUNT):
        extra_bits, base = distance_base(symbol)
        cost = distance_cost(base, distances)
        if cost is not None and base <= window:
            last = min(window, base + (1 << extra_bits) - 1)
            groups[cost] = groups.get(cost, 0) | distances_from_to(base, last)
    return [(cost, groups[cost]) for cost in sorted(groups)]


def _stretches(matches, groups):
    found = []
    level = 0
    for longest, members in matches:
        # Longer matches have fewer members, so none of them is in a group passed before.
        while members & groups[level][1] == 0:
            level += 1
        cost, group = groups[level]
        found.append((longest, cost, least_distance(members & group)))
    return found
