"""Decoding a stream that arrives in parts (points 451 to 456)."""

from bellows.errors import NotNow, OutOfRange, Truncated
from bellows.base.sums import adler32, crc32
from bellows.copies.symbols import MOST_DISTANCE
from bellows.inflate.arriving import MARKER, NOT_FOUND
from bellows.inflate.decoding import Decoder
from bellows.inflate.flow import Flow

_MOST_LIMIT = 65536
MOST_TAIL = 32768


class Inflater:
    """Decodes a stream that is fed in parts, and returns the bytes in any amounts."""

    def __init__(self, dictionary=(), *, limit=4096, window=32768):
        if not 0 <= limit <= _MOST_LIMIT:
            raise OutOfRange(0)
        if not 1 <= window <= MOST_DISTANCE:
            raise OutOfRange(1)
        self._decoder = Decoder(0, dictionary, 0, limit, window)
        self._flow = Flow(self._decoder)
        self._adler = 1
        self._crc = 0
        # While searching: the index before which no marker begins.
        self._searched = 0

    def feed(self, part, room=None):
        """Append a part to the input, and return the bytes that are due, at most `room` ones."""
        self._flow.extend(part)
        if self._decoder.is_paused():
            self._search()
        given = self._flow.give(room)
        self._adler = adler32(given, self._adler)
        self._crc = crc32(given, self._crc)
        return given

    def position(self):
        """The position after the last unit that was executed."""
        return self._decoder.position()

    def given(self):
        """The number of bytes returned."""
        return self._flow.given()

    def owed(self):
        """The number of bytes that were produced and not returned yet."""
        return self._flow.owed()

    def sums(self):
        """The Adler-32 and the CRC-32 of the bytes returned."""
        return (self._adler, self._crc)

    def ended(self):
        """Whether the stream has ended and nothing is owed."""
        return self._decoder.has_ended() and self.owed() == 0

    def waits(self):
        """Whether nothing can happen until more is fed."""
        if self._decoder.is_paused():
            return self.owed() == 0
        return self._flow.waits()

    def rest(self):
        """The bytes of the input after the one in which the stream ends."""
        if not self._decoder.has_ended():
            return []
        return self._flow.arrived().bytes_from((self.position() + 7) // 8)

    def close(self):
        """Raise the error that is due if no more input comes."""
        self._flow.check_unit()
        if not self._decoder.has_ended():
            raise Truncated(8 * self._flow.arrived().size())

    def copy(self):
        """An independent decoder in the same state."""
        twin = Inflater()
        twin._decoder = self._decoder.twin()
        twin._flow = self._flow.twin_for(twin._decoder)
        twin._adler = self._adler
        twin._crc = self._crc
        twin._searched = self._searched
        return twin

    def sync(self):
        """Skip to the next marker; tells whether there is one in the input."""
        if self._decoder.has_ended():
            raise NotNow(self.position())
        self._decoder.pause()
        self._searched = (self.position() + 7) // 8
        self._search()
        return not self._decoder.is_paused()

    def state(self):
        """The state at a border."""
        if not self._decoder.is_at_header() or self.owed() > 0:
            raise NotNow(self.position())
        tail = self._decoder.tail(MOST_TAIL)
        return (self.position(), self.given(), tail, self._adler, self._crc)

    def go_on_from(self, state, limit, window):
        """Take over a state; for a decoder that was fed nothing yet."""
        position, given, tail, adler, crc = state
        self._decoder = Decoder(position, tail, given, limit, window)
        self._flow = Flow(self._decoder)
        # What stands before the position is not there any more, but positions count from the start.
        self._flow.begin_at(position // 8, given)
        self._adler = adler
        self._crc = crc

    def _search(self):
        bits = self._flow.arrived()
        place = bits.marker_from(self._searched)
        if place == NOT_FOUND:
            # A marker may begin in the last bytes that are here, and end in the next part.
            self._searched = max(self._searched, bits.size() - len(MARKER) + 1)
            return
        self._decoder.restart(8 * (place + len(MARKER)))


def resume(state, *, limit=4096, window=32768):
    """A decoder that goes on from a state."""
    decoder = Inflater(limit=limit, window=window)
    decoder.go_on_from(state, limit, window)
    return decoder
