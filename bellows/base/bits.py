"""Writing and reading bits (point 101)."""

from bellows.errors import OutOfRange, Truncated

_MOST_BITS = 64


class BitWriter:
    """A growing sequence of bits, in which bit 0 of a byte is the first one."""

    def __init__(self):
        self._whole = []
        self._rest = 0
        self._rest_size = 0

    def put(self, value, width):
        """Append a number, its least significant bit first."""
        if not 0 <= width <= _MOST_BITS or not 0 <= value < 1 << width:
            raise OutOfRange(self.count())
        self._rest |= value << self._rest_size
        self._rest_size += width
        while self._rest_size >= 8:
            self._whole.append(self._rest & 255)
            self._rest >>= 8
            self._rest_size -= 8

    def put_code(self, code, width):
        """Append a code, its most significant bit first."""
        if not 0 <= width <= _MOST_BITS or not 0 <= code < 1 << width:
            raise OutOfRange(self.count())
        number = 0
        for _ in range(width):
            number = 2 * number + (code & 1)
            code >>= 1
        self.put(number, width)

    def count(self):
        """The number of bits so far."""
        return 8 * len(self._whole) + self._rest_size

    def align(self):
        """Append zeros up to the next multiple of 8 bits."""
        self.put(0, -self._rest_size % 8)

    def data(self):
        """The bits as a list of bytes, filled up with zeros."""
        if self._rest_size == 0:
            return list(self._whole)
        return self._whole + [self._rest]

    def copy(self):
        """An independent writer with the same bits."""
        twin = BitWriter()
        twin._whole = list(self._whole)
        twin._rest = self._rest
        twin._rest_size = self._rest_size
        return twin


class BitReader:
    """Reads the bits of a list of bytes from one position up to another one."""

    def __init__(self, data, at=0, end=None):
        size = 8 * len(data)
        if end is None:
            end = size
        if not 0 <= at <= end <= size:
            raise OutOfRange(0)
        self._data = list(data)
        self._place = at
        self._end = end

    def take(self, width):
        """The next number; the reader moves behind it."""
        number = self.look(width)
        if width > self.left():
            raise Truncated(self._end)
        self._place += width
        return number

    def look(self, width):
        """The next number, without moving; bits that are not left count as 0."""
        if not 0 <= width <= _MOST_BITS:
            raise OutOfRange(self._place)
        width = min(width, self.left())
        first = self._place // 8
        after = (self._place + width + 7) // 8
        number = 0
        for byte in reversed(self._data[first:after]):
            number = 256 * number + byte
        return (number >> (self._place % 8)) & ((1 << width) - 1)

    def place(self):
        """The position of the next bit."""
        return self._place

    def left(self):
        """The number of bits left."""
        return self._end - self._place

    def align(self):
        """Move to the next multiple of 8."""
        place = (self._place + 7) // 8 * 8
        if place > self._end:
            raise Truncated(self._end)
        self._place = place
