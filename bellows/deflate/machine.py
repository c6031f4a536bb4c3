"""The encoder machine, which is fed values in any pieces and writes one stream (points 560 to 570)."""

from bellows.errors import (
    Finished, InvalidAmount, InvalidFlush, InvalidLevel, InvalidPrime, InvalidRoom, InvalidStrategy,
    InvalidTuning, InvalidWindow, TooLate,
)
from bellows.base.bits import BitWriter
from bellows.copies.expand import token_size
from bellows.copies.symbols import MOST_DISTANCE
from bellows.deflate.blocks import best_way, block_size, write_block
from bellows.deflate.levels import FIXED, Parser, settings

NO = 0
BLOCK = 1
PARTIAL = 2
SYNC = 3
FULL = 4

_MOST_ROOM = 4096
_MOST_PRIMED = 7
# The least and the greatest of the numbers that `tune` takes, in their order.
_TUNING = ((1, 4096), (3, 258), (3, 258), (0, 258))

_STORED_WAY = 0
_FIXED_WAY = 1


class Deflater:
    """Compresses the values that it is fed."""

    def __init__(self, level=6, strategy=0, window=32768, room=1024, before=()):
        _check_level(level)
        _check_strategy(strategy)
        if not 1 <= window <= MOST_DISTANCE:
            raise InvalidWindow(window)
        if not 1 <= room <= _MOST_ROOM:
            raise InvalidRoom(room)
        self._first_options = (level, strategy)
        self._window = window
        self._room = room
        self._before = list(before)
        self.reset()

    def feed(self, values):
        """Append values, and write the blocks that end."""
        self._check_not_finished()
        self._parser.extend(values)
        self._step_on(False)

    def flush(self, kind):
        """Write everything that was fed, and what the kind of the flush asks for."""
        self._check_not_finished()
        if not NO <= kind <= FULL:
            raise InvalidFlush(kind)
        if kind == NO:
            return
        self._end_all()
        if kind == PARTIAL:
            write_block(self._writer, _FIXED_WAY, [], [], 0)
        elif kind >= SYNC:
            write_block(self._writer, _STORED_WAY, [], [], 0)
        if kind == FULL:
            self._parser.forget()

    def change(self, level, strategy):
        """Go on with another level and strategy."""
        self._check_not_finished()
        _check_level(level)
        _check_strategy(strategy)
        if (level, strategy) != (self._level, self._strategy):
            self._end_all()
            self._use(level, strategy)

    def tune(self, chain, nice, patience, good):
        """Go on with other numbers than those of the level."""
        self._check_not_finished()
        tuned = (chain, nice, patience, good)
        for index, number in enumerate(tuned):
            least, most = _TUNING[index]
            if not least <= number <= most:
                raise InvalidTuning(index)
        if self._level == 0:
            raise InvalidLevel(0)
        self._end_all()
        self._numbers = (self._numbers[0], chain, nice, patience, good)

    def prime(self, value, count):
        """Write bits before everything else."""
        self._check_not_finished()
        if not 0 <= count <= _MOST_PRIMED or not 0 <= value < 1 << count:
            raise InvalidPrime(count)
        if self._fed() > 0 or self._writer.count() > 0:
            raise TooLate(self._fed())
        self._writer.put(value, count)

    def finish(self):
        """Write everything that was fed, and the end of the stream."""
        self._check_not_finished()
        self._step_on(True)
        self._end_block(1)
        self._writer.align()
        self._is_finished = True

    def take(self, most=None):
        """Remove the first ready integers, at most so many, and return them."""
        if most is not None and most < 0:
            raise InvalidAmount(most)
        count = self.ready()
        if most is not None:
            count = min(count, most)
        first = self._taken
        self._taken += count
        return self._writer.data()[first:self._taken]

    def ready(self):
        """The number of integers that can be taken."""
        return self._writer.count() // 8 - self._taken

    def report(self):
        """A dict that tells the state of the machine."""
        start = len(self._before)
        return {
            "fed": self._fed(),
            "bits": self._writer.count(),
            "taken": self._taken,
            "front": self._parser.front() - start,
            "floor": self._parser.floor() - start,
            "level": self._level,
            "strategy": self._strategy,
            "held": self._parser.held(),
            "tokens": len(self._tokens),
            "finished": self._is_finished,
        }

    def copy(self):
        """An independent machine in the same state."""
        level, strategy = self._first_options
        twin = Deflater(level, strategy, self._window, self._room, self._before)
        twin._level = self._level
        twin._strategy = self._strategy
        twin._numbers = self._numbers
        twin._parser = self._parser.twin()
        twin._writer = self._writer.copy()
        twin._taken = self._taken
        twin._tokens = list(self._tokens)
        twin._block_start = self._block_start
        twin._block_end = self._block_end
        twin._is_finished = self._is_finished
        return twin

    def reset(self):
        """Become as the machine was made."""
        level, strategy = self._first_options
        self._use(level, strategy)
        start = len(self._before)
        self._parser = Parser(self._before, start, 0, self._window)
        self._writer = BitWriter()
        self._taken = 0
        self._tokens = []
        # The positions of the history from and up to which the tokens in the buffer lead.
        self._block_start = start
        self._block_end = start
        self._is_finished = False

    def _use(self, level, strategy):
        self._level = level
        self._strategy = strategy
        self._numbers = settings(level)

    def _check_not_finished(self):
        if self._is_finished:
            raise Finished(self._fed())

    def _fed(self):
        return self._parser.end() - len(self._before)

    def _step_on(self, bounded):
        """Make all steps that are possible."""
        tokens = self._parser.step(self._numbers, self._strategy, bounded)
        while tokens is not None:
            for token in tokens:
                self._add_token(token)
            tokens = self._parser.step(self._numbers, self._strategy, bounded)

    def _add_token(self, token):
        self._tokens.append(token)
        self._block_end += token_size(token)
        if len(self._tokens) == self._room:
            self._end_block(0)

    def _end_all(self):
        """Cover all values by tokens and write these."""
        self._step_on(True)
        if self._tokens != []:
            self._end_block(0)

    def _end_block(self, is_last):
        values = self._parser.part(self._block_start, self._block_end)
        write_block(self._writer, self._best_kind(values), self._tokens, values, is_last)
        self._tokens = []
        self._block_start = self._block_end

    def _best_kind(self, values):
        """The kind with the least size, of those that level and strategy allow."""
        if self._tokens == []:
            return _FIXED_WAY
        if self._level == 0:
            return _STORED_WAY
        at = self._writer.count()
        if self._strategy != FIXED:
            return best_way(self._tokens, values, at)[0]
        stored = block_size(_STORED_WAY, self._tokens, values, at)
        if stored <= block_size(_FIXED_WAY, self._tokens, values, at):
            return _STORED_WAY
        return _FIXED_WAY


def _check_level(level):
    if not 0 <= level <= 9:
        raise InvalidLevel(level)


def _check_strategy(strategy):
    if not 0 <= strategy <= FIXED:
        raise InvalidStrategy(strategy)
