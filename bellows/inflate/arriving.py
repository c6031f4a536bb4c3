"""Bits that arrive in parts."""

from bellows.errors import Truncated
from bellows.base.bits import BitReader

MARKER = (0, 0, 255, 255)
NOT_FOUND = -1


class ArrivingBits(BitReader):
    """Reads the bits of bytes to which more are appended."""

    def extend(self, part):
        """Append bytes."""
        self._data.extend(part)
        self._end = 8 * len(self._data)

    def move(self, place):
        """Go to a position."""
        if place > self._end:
            raise Truncated(self._end)
        self._place = place

    def size(self):
        """The number of bytes that have arrived."""
        return len(self._data)

    def bytes_from(self, index):
        """The bytes from an index on."""
        return self._data[index:]

    def marker_from(self, index):
        """The index of the next marker, NOT_FOUND if none has arrived."""
        marker = list(MARKER)
        for first in range(index, len(self._data) - len(marker) + 1):
            if self._data[first:first + len(marker)] == marker:
                return first
        return NOT_FOUND

    def twin(self):
        """An independent reader of the same bytes."""
        return ArrivingBits(self._data)
