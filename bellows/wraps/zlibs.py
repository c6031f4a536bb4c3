"""Reading and writing zlib texts (points 601 to 604)."""

from bellows.errors import (
    Extra, NeedsDictionary, OutOfRange, Truncated, WrongDictionary, WrongHeader, WrongMethod, WrongSum,
    WrongWindow,
)
from bellows.base.sums import adler32
from bellows.inflate.whole import inflate_unchecked

_DEFLATE_METHOD = 8
_HAS_DICTIONARY = 32
_CHECK_MODULUS = 31
_LEAST_WINDOW = 256
_WINDOWS = 8
_SUM_SIZE = 4


def zlib_read(text, *, dictionary=None, limit=4096):
    """The pair of the data of a zlib text, and the index behind it."""
    method, flags = _taken(text, 0, 2)
    _check_header(method, flags)
    start = 2
    before = []
    if flags & _HAS_DICTIONARY:
        _check_dictionary(_number(text, start), dictionary)
        start += _SUM_SIZE
        before = dictionary
    window = _LEAST_WINDOW << (method // 16)
    data, end = inflate_unchecked(text, 8 * start, before, limit, window)
    place = (end + 7) // 8
    if _number(text, place) != adler32(data):
        raise WrongSum(8 * place)
    return (data, place + _SUM_SIZE)


def zlib_whole(text, *, dictionary=None, limit=4096):
    """The data of a zlib text, behind which nothing may follow."""
    data, after = zlib_read(text, dictionary=dictionary, limit=limit)
    if after < len(text):
        raise Extra(8 * after)
    return data


def zlib_wrap(stream, data, *, dictionary=None, window=32768, level=2):
    """The zlib text of a stream and its data."""
    windows = [_LEAST_WINDOW << index for index in range(_WINDOWS)]
    if window not in windows:
        raise OutOfRange(0)
    if not 0 <= level <= 3:
        raise OutOfRange(1)
    method = _DEFLATE_METHOD + 16 * windows.index(window)
    flags = 64 * level
    before = []
    if dictionary is not None:
        flags += _HAS_DICTIONARY
        before = _highest_first(adler32(dictionary))
    flags += -(256 * method + flags) % _CHECK_MODULUS
    return [method, flags] + before + stream + _highest_first(adler32(data))


def _check_header(method, flags):
    if method % 16 != _DEFLATE_METHOD:
        raise WrongMethod(0)
    if method // 16 >= _WINDOWS:
        raise WrongWindow(0)
    if (256 * method + flags) % _CHECK_MODULUS != 0:
        raise WrongHeader(8)


def _check_dictionary(checksum, dictionary):
    if dictionary is None:
        raise NeedsDictionary(16)
    if checksum != adler32(dictionary):
        raise WrongDictionary(16)


def _taken(text, start, count):
    """The bytes from an index on."""
    if start + count > len(text):
        raise Truncated(8 * len(text))
    return text[start:start + count]


def _number(text, start):
    """The number of four bytes, the highest one first."""
    number = 0
    for byte in _taken(text, start, _SUM_SIZE):
        number = 256 * number + byte
    return number


def _highest_first(number):
    """The four bytes of a number."""
    return [number >> shift & 255 for shift in (24, 16, 8, 0)]
