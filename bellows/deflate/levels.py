"""Levels and strategies, and turning values into tokens by them (points 551 to 559)."""

from bellows.errors import Busy, InvalidLevel
from bellows.copies.finder import Chains, common_length, search
from bellows.copies.symbols import LEAST_LENGTH, MOST_LENGTH

DEFAULT = 0
FILTERED = 1
HUFFMAN = 2
RUNS = 3
FIXED = 4

_NO_COPY = (0, 0)
# A copy of three values from farther away takes more bits than it saves.
_FARTHEST_OF_THREE = 4096
_LEAST_FILTERED = 6
# So many values before the end of what may still grow, a step sees nothing of this end.
_LOOK_AHEAD = 320

# The tuples (way, chain, nice, patience, good), by level.
_SETTINGS = (
    ("stored", 0, 0, 0, 0),
    ("greedy", 2, 12, 0, 0),
    ("greedy", 6, 24, 0, 0),
    ("greedy", 16, 48, 0, 0),
    ("waiting", 12, 24, 6, 4),
    ("waiting", 24, 48, 12, 6),
    ("waiting", 64, 96, 24, 8),
    ("waiting", 128, 160, 48, 12),
    ("waiting", 256, 258, 96, 24),
    ("waiting", 1024, 258, 258, 40),
)


def settings(level):
    """The settings of a level."""
    if not 0 <= level < len(_SETTINGS):
        raise InvalidLevel(level)
    return _SETTINGS[level]


def usable(copy, strategy):
    """The copy, or (0, 0) if it is not used under the strategy."""
    length, distance = copy
    if strategy == HUFFMAN or (strategy == FILTERED and length < _LEAST_FILTERED):
        return _NO_COPY
    if length == LEAST_LENGTH and distance > _FARTHEST_OF_THREE:
        return _NO_COPY
    return copy


def run_at(history, at, end, floor):
    """The run `(length, 1)` at a position, (0, 0) if there is none."""
    if at - 1 < floor:
        return _NO_COPY
    length = common_length(history, at - 1, at, min(MOST_LENGTH, end - at))
    if length < LEAST_LENGTH:
        return _NO_COPY
    return (length, 1)


class Parser:
    """Turns the values of a growing history into tokens."""

    def __init__(self, history, at, floor, window):
        self._history = list(history)
        self._at = at
        self._held = _NO_COPY
        self._chains = Chains(window)
        self._chains.forget(floor)

    def extend(self, values):
        """Append values to the history."""
        self._history.extend(values)

    def step(self, numbers, strategy, bounded):
        """Make one step and return its tokens, or None if no step is possible."""
        left = self.end() - self._at
        if left == 0 or (not bounded and left < _LOOK_AHEAD):
            return None
        way = numbers[0]
        if way == "stored" or strategy == HUFFMAN:
            return self._emit(_NO_COPY)
        if strategy == RUNS:
            return self._emit(run_at(self._history, self._at, self.end(), self.floor()))
        if way == "greedy":
            return self._emit(self._found(numbers, numbers[1], 0, strategy))
        if self._held == _NO_COPY:
            return self._begin_to_wait(numbers, strategy, bounded)
        return self._go_on_waiting(numbers, strategy, bounded)

    def at(self):
        """The position where the parser stands."""
        return self._at

    def front(self):
        """The first position that no token covers yet."""
        if self._held == _NO_COPY:
            return self._at
        return self._at - 1

    def end(self):
        """The length of the history."""
        return len(self._history)

    def floor(self):
        """The position below which no copy leads."""
        return self._chains.floor()

    def held(self):
        """The copy that is held, (0, 0) if there is none."""
        return self._held

    def forget(self):
        """Raise the floor to the end."""
        if self.front() != self.end():
            raise Busy(self.front())
        self._chains.forget(self.end())

    def part(self, first, last):
        """The values from one position up to another one."""
        return self._history[first:last]

    def twin(self):
        """An independent parser in the same state."""
        other = Parser(self._history, self._at, 0, 1)
        other._held = self._held
        other._chains = self._chains.twin()
        return other

    def _emit(self, copy):
        """Move behind a copy, or behind a literal if there is none, and return the token."""
        if copy == _NO_COPY:
            token = (self._history[self._at],)
            self._at += 1
        else:
            token = copy
            self._at += copy[0]
        return [token]

    def _found(self, numbers, chain, longer_than, strategy):
        """The usable copy that a search finds where the parser stands."""
        self._chains.enter(self._history, self._at)
        places = self._chains.nearest(self._history, self._at, chain)
        found = search(self._history, self._at, self.end(), places, numbers[2], longer_than)
        return usable(found, strategy)

    def _begin_to_wait(self, numbers, strategy, bounded):
        copy = self._found(numbers, numbers[1], 0, strategy)
        if copy == _NO_COPY or copy[0] > numbers[3] or self._reaches_end(copy, bounded):
            return self._emit(copy)
        self._held = copy
        self._at += 1
        return []

    def _go_on_waiting(self, numbers, strategy, bounded):
        held = self._held
        copy = self._better(numbers, strategy)
        self._held = _NO_COPY
        self._at -= 1
        if copy == _NO_COPY:
            return self._emit(held)
        tokens = self._emit(_NO_COPY)
        if self._reaches_end(copy, bounded):
            return tokens + self._emit(copy)
        self._held = copy
        self._at += 1
        return tokens

    def _better(self, numbers, strategy):
        """A usable copy that is longer than the one that is held."""
        _, chain, _, patience, good = numbers
        length = self._held[0]
        if length >= patience:
            return _NO_COPY
        if length >= good:
            chain = max(1, chain // 4)
        return self._found(numbers, chain, length, strategy)

    def _reaches_end(self, copy, bounded):
        return bounded and self._at + copy[0] == self.end()
