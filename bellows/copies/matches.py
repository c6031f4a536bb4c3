"""All earlier matches of data, from the last place to the first."""

from bellows.copies.symbols import LEAST_LENGTH, MOST_LENGTH

# A set of distances is an integer here, whose bit `d` tells whether the distance `d` is in it: so
# all distances are compared at once, which keeps long runs of equal bytes cheap.


class Matches:
    """The matches at the places of a list of values, each of which is asked for from the end on.

    A match `(longest, members)` is about the lengths that are at most `longest` and greater than in
    the match before it; its members are the distances that give copies of these lengths.
    """

    def __init__(self, values, usable):
        self._values = list(values)
        self._usable = usable
        self._place = len(self._values)
        self._places = _places_from_end(self._values)
        self._known = []

    def before(self):
        """The matches at the place before the one that was asked for last, by ascending length."""
        self._place -= 1
        passed = len(self._values) - 1 - self._place
        same = self._places[self._values[self._place]] >> passed
        self._known = _matches_before(self._known, self._usable, same)
        return [match for match in self._known if match[0] >= LEAST_LENGTH]


def distances_from_to(first, last):
    """The set of the distances from the first to the last one."""
    return (1 << (last + 1)) - (1 << first)


def least_distance(members):
    """The least distance of a set."""
    return (members & -members).bit_length() - 1


def _places_from_end(values):
    """For each value, the set of its places, where the last place is 0.

    Counted like this, all places that lie before one of them are at their distances from it as soon
    as the places behind it are shifted out.
    """
    places = {}
    mark = 1
    for value in reversed(values):
        places[value] = places.get(value, 0) | mark
        mark <<= 1
    return places


def _matches_before(matches, usable, same):
    """The matches at a place, of which `matches` are those at the next place.

    At the distances in `same` stands the value of the place.
    """
    found = []
    for longest, members in [(0, usable)] + matches:
        kept = members & same
        if kept == 0 or (found and found[-1][0] == MOST_LENGTH):
            break
        if found and found[-1][1] == kept:
            found.pop()
        found.append((min(longest + 1, MOST_LENGTH), kept))
    return found
