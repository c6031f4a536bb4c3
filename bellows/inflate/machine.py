"""Decoding a stream that arrives in parts (points 451 to 456)."""

from bellows.errors import BellowsError, NotNow, OutOfRange, Truncated
from bellows.base.sums import adler32, crc32
from bellows.copies.symbols import MOST_DISTANCE
from bellows.inflate.arriving import MARKER, NOT_FOUND, ArrivingBits
from bellows.inflate.decoding import Decoder

_MOST_LIMIT = 65536
_MOST_TAIL = 32768


class Inflater:
    """Decodes a stream that is fed in parts, and returns the bytes in any amounts."""

    def __init__(self, dictionary=(), *, limit=4096, window=32768):
        if not 0 <= limit <= _MOST_LIMIT:
            raise OutOfRange(0)
        if not 1 <= window <= MOST_DISTANCE:
            raise OutOfRange(1)
        self._bits = ArrivingBits([])
        self._decoder = Decoder(0, dictionary, 0, limit, window)
        self._owed = []
        self._given = 0
        self._adler = 1
        self._crc = 0
        self._is_searching = False
        # While searching: the index before which no marker begins.
        self._searched = 0

    def feed(self, part, room=None):
        """Append a part to the input, and return the bytes that are due, at most `room` ones."""
        self._bits.extend(part)
        if self._is_searching:
            self._search()
        self._run(room)
        if self._owed == [] and room == 0:
            self._check_unit()
        return self._give(room)

    def position(self):
        """The position after the last unit that was executed."""
        return self._decoder.position()

    def given(self):
        """The number of bytes returned."""
        return self._given

    def owed(self):
        """The number of bytes that were produced and not returned yet."""
        return len(self._owed)

    def sums(self):
        """The Adler-32 and the CRC-32 of the bytes returned."""
        return (self._adler, self._crc)

    def ended(self):
        """Whether the stream has ended and nothing is owed."""
        return self._decoder.has_ended() and self._owed == []

    def waits(self):
        """Whether nothing can happen until more is fed."""
        if self._owed != [] or self._decoder.has_ended():
            return False
        return self._is_searching or self._is_incomplete()

    def rest(self):
        """The bytes of the input after the one in which the stream ends."""
        if not self._decoder.has_ended():
            return []
        return self._bits.bytes_from((self.position() + 7) // 8)

    def close(self):
        """Raise the error that is due if no more input comes."""
        self._check_unit()
        if not self._decoder.has_ended():
            raise Truncated(8 * self._bits.size())

    def copy(self):
        """An independent decoder in the same state."""
        twin = Inflater()
        twin._bits = self._bits.twin()
        twin._decoder = self._decoder.twin()
        twin._owed = list(self._owed)
        twin._given = self._given
        twin._adler = self._adler
        twin._crc = self._crc
        twin._is_searching = self._is_searching
        twin._searched = self._searched
        return twin

    def sync(self):
        """Skip to the next marker; tells whether there is one in the input."""
        if self._decoder.has_ended():
            raise NotNow(self.position())
        self._is_searching = True
        self._searched = (self.position() + 7) // 8
        self._search()
        return not self._is_searching

    def state(self):
        """The state at a border."""
        at_border = self._decoder.is_at_header() and self._owed == []
        if not at_border or self._is_searching:
            raise NotNow(self.position())
        tail = self._decoder.tail(_MOST_TAIL)
        return (self.position(), self._given, tail, self._adler, self._crc)

    def go_on_from(self, state, limit, window):
        """Take over a state; for a decoder that was fed nothing yet."""
        position, given, tail, adler, crc = state
        # What stands before the position is never looked at; it is there for the positions.
        self._bits.extend([0] * (position // 8))
        self._decoder = Decoder(position, tail, given, limit, window)
        self._given = given
        self._adler = adler
        self._crc = crc

    def _search(self):
        place = self._bits.marker_from(self._searched)
        if place == NOT_FOUND:
            # A marker may begin in the last bytes that are here, and end in the next part.
            self._searched = max(self._searched, self._bits.size() - len(MARKER) + 1)
            return
        self._is_searching = False
        self._decoder.restart(8 * (place + len(MARKER)))

    def _has_unit(self):
        """Whether there is a next unit, complete or not."""
        return not self._is_searching and not self._decoder.has_ended()

    def _run(self, room):
        """Execute units until enough bytes are owed, or the next unit is not complete."""
        while self._has_unit() and (room is None or len(self._owed) < room):
            try:
                unit = self._decoder.read_unit(self._bits)
            except Truncated:
                return
            except BellowsError:
                if self._owed != []:
                    return
                raise
            self._owed += self._decoder.execute(unit, self._bits)

    def _check_unit(self):
        """Raise the error of the next unit if it is invalid."""
        if self._has_unit():
            try:
                self._decoder.read_unit(self._bits)
            except Truncated:
                return

    def _is_incomplete(self):
        try:
            self._decoder.read_unit(self._bits)
        except Truncated:
            return True
        except BellowsError:
            return False
        return False

    def _give(self, room):
        count = len(self._owed) if room is None else room
        part = self._owed[:count]
        self._owed = self._owed[count:]
        self._given += len(part)
        self._adler = adler32(part, self._adler)
        self._crc = crc32(part, self._crc)
        return part


def resume(state, *, limit=4096, window=32768):
    """A decoder that goes on from a state."""
    decoder = Inflater(limit=limit, window=window)
    decoder.go_on_from(state, limit, window)
    return decoder
