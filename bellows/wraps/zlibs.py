"""Reading and writing zlib texts (points 601 to 604)."""

from bellows.errors import (
    Extra, NeedsDictionary, OutOfRange, WrongDictionary, WrongHeader, WrongMethod, WrongSum, WrongWindow,
)
from bellows.base.sums import adler32
from bellows.inflate.whole import inflate_unchecked
from bellows.wraps.fields import highest_first, number_highest_first, taken

_DEFLATE_METHOD = 8
_HAS_DICTIONARY = 32
_CHECK_MODULUS = 31
_LEAST_WINDOW = 256
_WINDOWS = 8
SUM_SIZE = 4

HEAD_SIZE = 2


def zlib_read(text, *, dictionary=None, limit=4096):
    """The pair of the data of a zlib text, and the index behind it."""
    _, data, after = parts_of(text, dictionary, limit)
    return (data, after)


def zlib_whole(text, *, dictionary=None, limit=4096):
    """The data of a zlib text, behind which nothing may follow."""
    return whole_parts(text, dictionary, limit)[1]


def zlib_wrap(stream, data, *, dictionary=None, window=32768, level=2):
    """The zlib text of a stream and its data."""
    return zlib_head(dictionary, window, level) + stream + zlib_tail(adler32(data))


def zlib_head(dictionary, window, level):
    """The part of a zlib text before its stream."""
    windows = [_LEAST_WINDOW << index for index in range(_WINDOWS)]
    if window not in windows:
        raise OutOfRange(0)
    if not 0 <= level <= 3:
        raise OutOfRange(1)
    method = _DEFLATE_METHOD + 16 * windows.index(window)
    flags = 64 * level
    before = []
    if dictionary is not None:
        flags += _HAS_DICTIONARY
        before = zlib_tail(adler32(dictionary))
    flags += -(256 * method + flags) % _CHECK_MODULUS
    return [method, flags] + before


def least_window(size):
    """The least window of a zlib text that has at least this size."""
    window = _LEAST_WINDOW
    while window < size:
        window *= 2
    return window


def zlib_tail(checksum):
    """The bytes of an Adler-32."""
    return highest_first(checksum, SUM_SIZE)


def whole_parts(text, dictionary, limit):
    """The parts of a zlib text, behind which nothing may follow."""
    parts = parts_of(text, dictionary, limit)
    if parts[2] < len(text):
        raise Extra(8 * parts[2])
    return parts


def parts_of(text, dictionary, limit):
    """The index of the stream of a zlib text, the data, and the index behind the text."""
    window, _, has_dictionary = read_head(text)
    at = HEAD_SIZE
    before = []
    if has_dictionary:
        checksum = read_sum(text, at)
        at += SUM_SIZE
        check_dictionary(checksum, dictionary)
        before = dictionary
    data, end = inflate_unchecked(text, 8 * at, before, limit, window)
    after = (end + 7) // 8
    check_sum(text, after, adler32(data))
    return (at, data, after + SUM_SIZE)


def read_head(text):
    """The window and the level that the first two bytes tell, and whether there is a dictionary."""
    method, flags = taken(text, 0, HEAD_SIZE)
    if method % 16 != _DEFLATE_METHOD:
        raise WrongMethod(0)
    if method // 16 >= _WINDOWS:
        raise WrongWindow(0)
    if (256 * method + flags) % _CHECK_MODULUS != 0:
        raise WrongHeader(8)
    return (_LEAST_WINDOW << (method // 16), flags // 64, flags & _HAS_DICTIONARY > 0)


def read_sum(text, at):
    """The Adler-32 that stands at an index."""
    return number_highest_first(taken(text, at, SUM_SIZE))


def check_dictionary(checksum, dictionary):
    """Check that a dictionary, None if there is none, is the one that a text asks for."""
    if dictionary is None:
        raise NeedsDictionary(8 * HEAD_SIZE)
    if checksum != adler32(dictionary):
        raise WrongDictionary(8 * HEAD_SIZE)


def check_sum(text, at, checksum):
    """Check the Adler-32 that stands behind a stream."""
    if read_sum(text, at) != checksum:
        raise WrongSum(8 * at)
