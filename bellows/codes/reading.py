"""Reading and writing the symbols of a canonical code (points 202 and 203)."""

from bellows.errors import BadCode, NoCode, Truncated
from bellows.codes.canon import FULL_WEIGHT, MOST_BITS, codes, weight


class Book:
    """The canonical code of a list of code lengths."""

    def __init__(self, lengths):
        self._codes = codes(lengths)
        self._lengths = list(lengths)
        self._weight = weight(lengths)
        self._symbols = self._marked_symbols()

    def read(self, reader):
        """Read a symbol; a reader from which none can be read does not move."""
        start = reader.place()
        if self._weight == 0:
            raise BadCode(start)
        bits = reader.look(MOST_BITS)
        mark = 1
        for width in range(1, MOST_BITS + 1):
            if width > reader.left():
                raise Truncated(start + reader.left())
            mark = 2 * mark + (bits & 1)
            bits >>= 1
            if mark in self._symbols:
                reader.take(width)
                return self._symbols[mark]
            if not self._begins_code(mark, width):
                break
        raise BadCode(start)

    def write(self, symbol, writer):
        """Append the code of a symbol."""
        width = self.size(symbol)
        if width == 0:
            raise NoCode(writer.count())
        writer.put_code(self._codes[symbol], width)

    def size(self, symbol):
        """The length of a symbol's code, 0 if it has none."""
        if 0 <= symbol < len(self._lengths):
            return self._lengths[symbol]
        return 0

    def _marked_symbols(self):
        """The symbols by their codes, with a 1 before each code to tell 0 from 00."""
        symbols = {}
        for symbol, length in enumerate(self._lengths):
            if length > 0:
                symbols[(1 << length) + self._codes[symbol]] = symbol
        return symbols

    def _begins_code(self, mark, width):
        # Seen as sequences of 15 bits, in ascending order, the codes take up exactly the first
        # ones, as many as the weight says; so it is enough to look at the first one with these bits.
        return (mark << (MOST_BITS - width)) - FULL_WEIGHT < self._weight
