"""The desk: a writer and a reader with a channel between them (points 901 to 903)."""

from bellows.base.sums import adler32, crc32
from bellows.deflate.machine import Deflater
from bellows.inflate.machine import Inflater
from bellows.wraps.feeding import GzipReader, ZlibReader
from bellows.wraps.gzips import gzip_header, gzip_tail, plain_header
from bellows.wraps.zlibs import least_window, zlib_head, zlib_tail

_LEVEL_NUMBER = 2


class Session:
    """What is fed to the writer goes through the channel, and comes out of the reader."""

    def __init__(self, wrapper, level, strategy, window, dictionary):
        self._wrapper = wrapper
        self._encoder = Deflater(level, strategy, window, before=dictionary)
        self._reader = _reader_for(wrapper, dictionary)
        self._transcript = _header_for(wrapper, window, dictionary)
        # How many bytes of the transcript the reader has received.
        self._carried = 0
        # The checksums and the number of the bytes that were fed.
        self._adler = 1
        self._crc = 0
        self._size = 0

    def act(self, action):
        """Perform an action; returns the bytes that the reader returns for `carry`, otherwise None."""
        word = action[0]
        if word == "carry":
            return self._carry(action[1], action[2])
        if word == "feed":
            self._feed(action[1])
        elif word == "flush":
            self._encoder.flush(action[1])
        elif word == "change":
            self._encoder.change(action[1], action[2])
        elif word == "swap":
            self._encoder = self._encoder.copy()
        else:
            self._encoder.finish()
        self._transcript += self._encoder.take()
        if word == "finish":
            self._transcript += self._tail()
        return None

    def pending(self):
        """The number of bytes in the channel."""
        return len(self._transcript) - self._carried

    def owed(self):
        """The number of bytes that the reader owes."""
        return self._reader.owed()

    def ended(self):
        """Whether the reader has ended."""
        return self._reader.ended()

    def transcript(self):
        """All bytes that entered the channel so far."""
        return list(self._transcript)

    def _feed(self, data):
        self._encoder.feed(data)
        self._adler = adler32(data, self._adler)
        self._crc = crc32(data, self._crc)
        self._size += len(data)

    def _carry(self, count, room):
        # The bytes leave the channel also if the reader raises an error.
        first = self._carried
        self._carried = min(first + count, len(self._transcript))
        return self._reader.feed(self._transcript[first:self._carried], room)

    def _tail(self):
        """The checksums of the wrapper."""
        if self._wrapper == "zlib":
            return zlib_tail(self._adler)
        if self._wrapper == "gzip":
            return gzip_tail(self._crc, self._size)
        return []


def _reader_for(wrapper, dictionary):
    if wrapper == "zlib":
        return ZlibReader(dictionary=_dictionary_or_none(dictionary))
    if wrapper == "gzip":
        return GzipReader()
    return Inflater(dictionary)


def _header_for(wrapper, window, dictionary):
    """The header of the wrapper."""
    if wrapper == "zlib":
        return zlib_head(_dictionary_or_none(dictionary), least_window(window), _LEVEL_NUMBER)
    if wrapper == "gzip":
        return gzip_header(plain_header())
    return []


def _dictionary_or_none(dictionary):
    if dictionary == []:
        return None
    return dictionary
