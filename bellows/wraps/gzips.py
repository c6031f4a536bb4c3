"""Reading and writing gzip texts (points 605 to 609)."""

from bellows.errors import (
    Truncated, WrongFlags, WrongHeader, WrongLength, WrongMagic, WrongMember, WrongMethod, WrongSum,
)
from bellows.base.sums import crc32
from bellows.copies.symbols import MOST_DISTANCE
from bellows.inflate.whole import inflate_unchecked
from bellows.wraps.fields import lowest_first, number_lowest_first, taken

_MAGIC = (31, 139)
_DEFLATE_METHOD = 8

_IS_TEXT = 1
_IS_CHECKED = 2
_HAS_EXTRA = 4
_HAS_NAME = 8
_HAS_COMMENT = 16
_AFTER_FLAGS = 32

_MOST_EXTRA = 65535
# The time, the hint and the system.
_PLAIN_SIZE = 6
_CHECK_SIZE = 2
_SUM_SIZE = 4
TAIL_SIZE = 8


def gzip_read(text, *, limit=4096):
    """The pairs of the header and the data of all members, up to the end of the text."""
    return [(header, data) for header, _, data, _ in all_parts(text, limit)]


def gzip_lead(text, *, limit=4096):
    """The pair of such a list of the members that stand first, and the index behind them."""
    found = []
    at = 0
    left = limit
    while found == [] or text[at:at + len(_MAGIC)] == list(_MAGIC):
        header, data, at = member_at(text, at, limit=left)
        left -= len(data)
        found.append((header, data))
    return (found, at)


def member_at(text, start, *, limit=4096):
    """The header, the data and the index behind the member that begins at an index."""
    header, _, data, after = parts_at(text, start, limit)
    return (header, data, after)


def gzip_member(header, stream, data):
    """The member of a header, a stream and its data."""
    return gzip_header(header) + stream + gzip_tail(crc32(data), len(data))


def gzip_header(header):
    """The part of a member before its stream."""
    is_text, time, hint, system, extra, name, comment, is_checked = header
    _check_fields(time, extra, name, comment)
    flags = 0
    fields = []
    if is_text:
        flags += _IS_TEXT
    if extra is not None:
        flags += _HAS_EXTRA
        fields += lowest_first(len(extra), 2) + extra
    if name is not None:
        flags += _HAS_NAME
        fields += name + [0]
    if comment is not None:
        flags += _HAS_COMMENT
        fields += comment + [0]
    if is_checked:
        flags += _IS_CHECKED
    start = list(_MAGIC) + [_DEFLATE_METHOD, flags] + lowest_first(time, 4) + [hint, system] + fields
    if is_checked:
        return start + _header_check(start)
    return start


def gzip_tail(crc, size):
    """The part of a member behind its stream."""
    return lowest_first(crc, _SUM_SIZE) + lowest_first(size, _SUM_SIZE)


def read_header(text, start):
    """The pair of the header of the member that begins at an index, and the index behind it."""
    flags = _read_flags(text, start)
    at = start + 4
    plain = taken(text, at, _PLAIN_SIZE)
    at += _PLAIN_SIZE
    extra = None
    name = None
    comment = None
    if flags & _HAS_EXTRA:
        size = number_lowest_first(taken(text, at, 2))
        extra = taken(text, at + 2, size)
        at += 2 + size
    if flags & _HAS_NAME:
        name = _read_words(text, at)
        at += len(name) + 1
    if flags & _HAS_COMMENT:
        comment = _read_words(text, at)
        at += len(comment) + 1
    is_checked = flags & _IS_CHECKED > 0
    if is_checked:
        if taken(text, at, _CHECK_SIZE) != _header_check(text[start:at]):
            raise WrongHeader(8 * at)
        at += _CHECK_SIZE
    time = number_lowest_first(plain[:4])
    return ((flags & _IS_TEXT > 0, time, plain[4], plain[5], extra, name, comment, is_checked), at)


def plain_header():
    """The header of a member about which nothing is told."""
    return (False, 0, 0, 255, None, None, None, False)


def all_parts(text, limit):
    """The parts of all members, up to the end of the text."""
    found = []
    at = 0
    while found == [] or at < len(text):
        parts = parts_at(text, at, limit)
        found.append(parts)
        limit -= len(parts[2])
        at = parts[3]
    return found


def parts_at(text, start, limit):
    """The header, the index of the stream, the data and the index behind a member."""
    header, at = read_header(text, start)
    data, end = inflate_unchecked(text, 8 * at, (), limit, MOST_DISTANCE)
    after = (end + 7) // 8
    check_tail(text, after, crc32(data), len(data))
    return (header, at, data, after + TAIL_SIZE)


def check_tail(text, at, crc, size):
    """Check the part of a member behind its stream."""
    if taken(text, at, _SUM_SIZE) != lowest_first(crc, _SUM_SIZE):
        raise WrongSum(8 * at)
    at += _SUM_SIZE
    if taken(text, at, _SUM_SIZE) != lowest_first(size, _SUM_SIZE):
        raise WrongLength(8 * at)


def _check_fields(time, extra, name, comment):
    for words in (name, comment):
        if words is not None and 0 in words:
            raise WrongMember(0)
    if extra is not None and len(extra) > _MOST_EXTRA:
        raise WrongMember(0)
    if not 0 <= time < 2 ** 32:
        raise WrongMember(0)


def _header_check(start):
    """The header check behind the bytes of a header."""
    return lowest_first(crc32(start), _CHECK_SIZE)


def _read_flags(text, start):
    """The flags of a member, which stand behind three bytes that are always the same."""
    for index, magic in enumerate(_MAGIC):
        if taken(text, start + index, 1)[0] != magic:
            raise WrongMagic(8 * (start + index))
    if taken(text, start + 2, 1)[0] != _DEFLATE_METHOD:
        raise WrongMethod(8 * (start + 2))
    flags = taken(text, start + 3, 1)[0]
    if flags >= _AFTER_FLAGS:
        raise WrongFlags(8 * (start + 3))
    return flags


def _read_words(text, start):
    """The bytes from an index up to the next 0, which has to be there."""
    rest = text[start:]
    if 0 not in rest:
        raise Truncated(8 * len(text))
    return rest[:rest.index(0)]
