"""Texts as items and units, which are read one after the other (points 451 and 610)."""

from bellows.base.sums import adler32, crc32
from bellows.copies.symbols import MOST_DISTANCE
from bellows.inflate.decoding import Decoder
from bellows.wraps.gzips import TAIL_SIZE, check_tail, read_header
from bellows.wraps.zlibs import HEAD_SIZE, SUM_SIZE, check_dictionary, check_sum, read_head, read_sum

# What is next.
_AT_HEADER = 0
_AT_DICTIONARY = 1
_AT_STREAM = 2
_AT_TAIL = 3
_AT_END = 4


class ZlibItems:
    """The items of a zlib text and the units of its stream, for a `Flow`."""

    def __init__(self, dictionary, limit):
        self._dictionary = dictionary
        self._limit = limit
        self._next = _AT_HEADER
        self._head = None
        self._decoder = None
        self._adler = 1

    def read_unit(self, bits):
        """The next item or unit, None if there is none; raises its error."""
        if self._next == _AT_HEADER:
            return read_head(bits.bytes_from(0))
        if self._next == _AT_DICTIONARY:
            checksum = read_sum(bits.bytes_from(0), HEAD_SIZE)
            check_dictionary(checksum, self._dictionary)
            return checksum
        if self._next == _AT_TAIL:
            check_sum(bits.bytes_from(0), index_behind(self._decoder), self._adler)
            return ()
        if self._next == _AT_END:
            return None
        return self._decoder.read_unit(bits)

    def execute(self, unit, bits):
        """Execute what was just read, and return the bytes that it produces."""
        if self._next == _AT_STREAM:
            return self._execute_unit(unit, bits)
        if self._next == _AT_HEADER:
            self._execute_head(unit)
        elif self._next == _AT_DICTIONARY:
            self._begin_stream(HEAD_SIZE + SUM_SIZE, self._dictionary)
        else:
            self._next = _AT_END
        return []

    def has_ended(self):
        """Whether the checksum behind the stream was read."""
        return self._next == _AT_END

    def end(self):
        """The index behind the text, which has ended."""
        return index_behind(self._decoder) + SUM_SIZE

    def head(self, bits):
        """The window, the level and the Adler-32 of the dictionary; None while it is not read."""
        if self._head is None:
            return None
        window, level, has_dictionary = self._head
        if not has_dictionary or bits.size() < HEAD_SIZE + SUM_SIZE:
            return (window, level, None)
        return (window, level, read_sum(bits.bytes_from(0), HEAD_SIZE))

    def needs_dictionary(self, bits):
        """Whether all that is missing for the next item is the dictionary."""
        if self._next != _AT_DICTIONARY or self._dictionary is not None:
            return False
        return bits.size() >= HEAD_SIZE + SUM_SIZE

    def use_dictionary(self, dictionary, bits):
        """Execute the item that needs the dictionary."""
        check_dictionary(read_sum(bits.bytes_from(0), HEAD_SIZE), dictionary)
        self._begin_stream(HEAD_SIZE + SUM_SIZE, dictionary)

    def twin(self):
        """Independent items in the same state."""
        other = ZlibItems(self._dictionary, self._limit)
        other._next = self._next
        other._head = self._head
        other._adler = self._adler
        if self._decoder is not None:
            other._decoder = self._decoder.twin()
        return other

    def _execute_head(self, head):
        self._head = head
        if head[2]:
            self._next = _AT_DICTIONARY
        else:
            self._begin_stream(HEAD_SIZE, [])

    def _begin_stream(self, at, before):
        self._decoder = Decoder(8 * at, before, 0, self._limit, self._head[0])
        self._next = _AT_STREAM

    def _execute_unit(self, unit, bits):
        made = self._decoder.execute(unit, bits)
        self._adler = adler32(made, self._adler)
        if self._decoder.has_ended():
            self._next = _AT_TAIL
        return made


class GzipItems:
    """The items of the members of a gzip text and the units of their streams, for a `Flow`."""

    def __init__(self, limit):
        self._limit = limit
        self._next = _AT_HEADER
        # The index at which the next member begins, and what was read of those so far.
        self._start = 0
        self._members = []
        self._decoder = None
        self._made = 0
        self._made_before = 0
        self._crc = 0

    def read_unit(self, bits):
        """The next item or unit, None if there is none; raises its error."""
        if self._next == _AT_STREAM:
            return self._decoder.read_unit(bits)
        if self._next == _AT_TAIL:
            size = self._made - self._made_before
            check_tail(bits.bytes_from(0), index_behind(self._decoder), self._crc, size)
            return ()
        if self.is_between(bits):
            return None
        return read_header(bits.bytes_from(0), self._start)

    def execute(self, unit, bits):
        """Execute what was just read, and return the bytes that it produces."""
        if self._next == _AT_HEADER:
            self._begin_member(unit)
        elif self._next == _AT_TAIL:
            self._start = index_behind(self._decoder) + TAIL_SIZE
            self._next = _AT_HEADER
        else:
            return self._execute_unit(unit, bits)
        return []

    def is_between(self, bits):
        """Whether some members, and nothing else, have arrived and were read."""
        return self._next == _AT_HEADER and self._members != [] and bits.size() == self._start

    def members(self):
        """For each header that was read: the header, its position, and what all before it produced."""
        return [(copied_header(header), position, made) for header, position, made in self._members]

    def twin(self):
        """Independent items in the same state."""
        other = GzipItems(self._limit)
        other._next = self._next
        other._start = self._start
        other._members = list(self._members)
        other._made = self._made
        other._made_before = self._made_before
        other._crc = self._crc
        if self._decoder is not None:
            other._decoder = self._decoder.twin()
        return other

    def _begin_member(self, header_and_index):
        header, at = header_and_index
        self._members.append((header, 8 * self._start, self._made))
        self._decoder = Decoder(8 * at, [], self._made, self._limit, MOST_DISTANCE)
        self._made_before = self._made
        self._crc = 0
        self._next = _AT_STREAM

    def _execute_unit(self, unit, bits):
        made = self._decoder.execute(unit, bits)
        self._made += len(made)
        self._crc = crc32(made, self._crc)
        if self._decoder.has_ended():
            self._next = _AT_TAIL
        return made


def index_behind(decoder):
    """The index of the first byte behind the stream that a decoder has read."""
    return (decoder.position() + 7) // 8


def copied_header(header):
    """A header with lists of its own."""
    is_text, time, hint, system, extra, name, comment, is_checked = header
    fields = [None if field is None else list(field) for field in (extra, name, comment)]
    return (is_text, time, hint, system, fields[0], fields[1], fields[2], is_checked)
