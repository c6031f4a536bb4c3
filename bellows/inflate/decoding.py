"""Decoding a stream unit by unit (points 406, 451 and 452)."""

from bellows.errors import TooFar, TooMuch
from bellows.codes.reading import Book
from bellows.copies.expand import token_size
from bellows.inflate.units import (
    DYNAMIC, STORED, fixed_lengths, lengths_of_head, read_head, read_header, read_item,
    read_stored_start, token_of,
)

# What the next unit is.
_AT_HEADER = 0
_AT_STORED_START = 1
_AT_BYTE = 2
_AT_HEAD = 3
_AT_ITEM = 4
_AT_END = 5
_PAUSED = 6

_END_OF_BLOCK_UNIT = (256,)


class Decoder:
    """Executes the units of a stream, of which the bits are passed in with each call.

    `before` is what copies may reach into, and `made` the number of bytes that count as produced
    already. The numbers are not checked.
    """

    def __init__(self, position, before, made, limit, window):
        self._position = position
        self._history = list(before)
        self._made = made
        self._limit = limit
        self._window = window
        self._next = _AT_HEADER
        self._is_last = 0
        self._bytes_left = 0
        self._letters = None
        self._distances = None
        self._fixed_books = None

    def read_unit(self, bits):
        """The next unit, None if there is none; raises its error, and Truncated if it is incomplete."""
        if self._next == _AT_END or self._next == _PAUSED:
            return None
        bits.move(self._position)
        if self._next == _AT_HEADER:
            return read_header(bits)
        if self._next == _AT_STORED_START:
            return read_stored_start(bits)
        if self._next == _AT_HEAD:
            return read_head(bits)
        if self._next == _AT_BYTE:
            unit = (bits.take(8),)
        else:
            unit = token_of(read_item(bits, self._letters, self._distances))
        if unit != _END_OF_BLOCK_UNIT:
            self._check_token(unit)
        return unit

    def execute(self, unit, bits):
        """Execute the unit that was just read, and return the bytes that it produces."""
        self._position = bits.place()
        if self._next == _AT_HEADER:
            self._begin_block(unit)
        elif self._next == _AT_STORED_START:
            self._begin_bytes(unit[1])
        elif self._next == _AT_HEAD:
            self._begin_items(lengths_of_head(unit))
        elif unit == _END_OF_BLOCK_UNIT:
            self._end_block()
        else:
            return self._produce(unit)
        return []

    def pause(self):
        """Have no next unit until a restart."""
        self._next = _PAUSED

    def restart(self, position):
        """Go on at a position with a new block, before which nothing can be copied."""
        self._position = position
        self._history = []
        self._next = _AT_HEADER

    def position(self):
        """The position after the last unit that was executed."""
        return self._position

    def has_ended(self):
        """Whether the last block has ended."""
        return self._next == _AT_END

    def is_paused(self):
        """Whether it waits for a restart."""
        return self._next == _PAUSED

    def is_at_header(self):
        """Whether the next unit is the header of a block."""
        return self._next == _AT_HEADER

    def tail(self, most):
        """The last bytes that copies may reach into, at most so many."""
        return self._history[-most:]

    def twin(self):
        """An independent decoder in the same state."""
        other = Decoder(self._position, self._history, self._made, self._limit, self._window)
        other._next = self._next
        other._is_last = self._is_last
        other._bytes_left = self._bytes_left
        other._letters = self._letters
        other._distances = self._distances
        other._fixed_books = self._fixed_books
        return other

    def _check_token(self, token):
        if len(token) == 2 and token[1] > min(self._window, len(self._history)):
            raise TooFar(self._position)
        if self._made + token_size(token) > self._limit:
            raise TooMuch(self._position)

    def _begin_block(self, header):
        self._is_last, kind = header
        if kind == STORED:
            self._next = _AT_STORED_START
        elif kind == DYNAMIC:
            self._next = _AT_HEAD
        else:
            self._next = _AT_ITEM
            self._use_fixed_books()

    def _use_fixed_books(self):
        # Streams may have many fixed blocks: their books are made once.
        if self._fixed_books is None:
            letters, distances = fixed_lengths()
            self._fixed_books = (Book(letters), Book(distances))
        self._letters, self._distances = self._fixed_books

    def _begin_items(self, lengths):
        letters, distances = lengths
        self._letters = Book(letters)
        self._distances = Book(distances)
        self._next = _AT_ITEM

    def _begin_bytes(self, size):
        self._bytes_left = size
        self._next = _AT_BYTE
        if size == 0:
            self._end_block()

    def _end_block(self):
        self._next = _AT_END if self._is_last == 1 else _AT_HEADER

    def _produce(self, token):
        size = token_size(token)
        if len(token) == 1:
            self._history.append(token[0])
        else:
            # One at a time: a copy may read what it has appended itself.
            for _ in range(size):
                self._history.append(self._history[-token[1]])
        self._made += size
        if self._next == _AT_BYTE:
            self._bytes_left -= 1
            if self._bytes_left == 0:
                self._end_block()
        return self._history[-size:]
