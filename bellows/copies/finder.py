"""Earlier positions with the same three values, and the copies they give (points 351 to 355)."""

from bellows.errors import NotEntered
from bellows.copies.symbols import LEAST_LENGTH, MOST_LENGTH

_NO_COPY = (0, 0)
_NO_PLACE = -1
_BUCKETS = 4096


def common_length(history, first, second, most):
    """How many values from two positions on are the same, up to a bound."""
    most = min(most, len(history) - second)
    length = 0
    while length < most and history[first + length] == history[second + length]:
        length += 1
    return length


def candidates(history, at, floor, window):
    """All earlier positions with the same three values, the nearest first."""
    if len(history) - at < LEAST_LENGTH:
        return []
    lowest = max(floor, at - window)
    return [place for place in reversed(range(lowest, at)) if _are_same(history, place, at)]


def search(history, at, end, places, nice, longer_than):
    """The copy `(length, distance)` at a position that the places give, (0, 0) if there is none."""
    limit = min(MOST_LENGTH, end - at)
    if limit < LEAST_LENGTH:
        return _NO_COPY
    kept = 0
    distance = 0
    for place in places:
        # A place can only give more than is kept if it also has the value behind that.
        if history[place + kept] == history[at + kept]:
            length = common_length(history, place, at, limit)
            if length > kept:
                kept = length
                distance = at - place
        if kept >= min(nice, limit):
            break
    if kept < LEAST_LENGTH or kept <= longer_than:
        return _NO_COPY
    return (kept, distance)


class Chains:
    """Positions of a growing history, linked so that candidates are found without a scan."""

    def __init__(self, window):
        self._window = window
        self._floor = 0
        # Positions are put into buckets by their three values. The last one of each bucket is kept
        # here, and for each position that was entered the one before it in its bucket.
        self._latest = {}
        self._before = []

    def enter(self, history, until):
        """Enter the positions below `until` whose three values are in the history."""
        first = len(self._before)
        after = min(until, len(history) - LEAST_LENGTH + 1)
        for place in range(first, after):
            bucket = _bucket(history, place)
            self._before.append(self._latest.get(bucket, _NO_PLACE))
            self._latest[bucket] = place

    def nearest(self, history, at, count):
        """The first `count` candidates of a position."""
        if len(history) - at < LEAST_LENGTH:
            return []
        entered = len(self._before)
        if entered < at:
            raise NotEntered(entered)
        if entered == at:
            place = self._latest.get(_bucket(history, at), _NO_PLACE)
        else:
            place = self._before[at]
        lowest = max(self._floor, at - self._window)
        found = []
        while place >= lowest and len(found) < count:
            if _are_same(history, place, at):
                found.append(place)
            place = self._before[place]
        return found

    def forget(self, floor):
        """Raise the floor."""
        self._floor = max(self._floor, floor)

    def floor(self):
        """The position below which there are no candidates."""
        return self._floor

    def twin(self):
        """Independent chains with the same positions."""
        other = Chains(self._window)
        other._floor = self._floor
        other._latest = dict(self._latest)
        other._before = list(self._before)
        return other


def _are_same(history, first, second):
    """Whether the same three values stand at two positions."""
    return history[first:first + LEAST_LENGTH] == history[second:second + LEAST_LENGTH]


def _bucket(history, place):
    first, second, third = history[place:place + LEAST_LENGTH]
    return (961 * first + 31 * second + third) % _BUCKETS
