"""Entries as frames, and frames as members of a segment (points 801, 805 and 806)."""

from bellows.errors import BellowsError, Truncated, WrongFrames, WrongMember
from bellows.base.steps import get_steps, put_steps
from bellows.base.sums import crc32
from bellows.deflate.machine import Deflater
from bellows.wraps.fields import lowest_first, number_lowest_first
from bellows.wraps.gzips import TAIL_SIZE, gzip_member, member_at

_MOST_BYTES = 256
_MOST_ENTRIES = 256

HEADER_SIZE = 36
# What stands first in each member, from the two numbers of every gzip member to the length behind
# the identifier of the extra field; then follow numbers of these sizes, and their CRC-32.
_HEADER_START = (31, 139, 8, 4, 0, 0, 0, 0, 0, 255, 24, 0, 76, 71, 20, 0)
_IDENTIFIER = (76, 71, 20, 0)
_SIZES = (4, 2, 4, 2, 4)
_SUM_SIZE = 4
_SYSTEM = 255


def write_member(first_entry, first_batch, batch_count, entries, level):
    """The bytes of a member with these entries."""
    data = write_frames(entries)
    stream = deflated(data, level)
    size = HEADER_SIZE + len(stream) + TAIL_SIZE
    numbers = []
    for number, width in zip((first_entry, len(entries), first_batch, batch_count, size), _SIZES):
        numbers += lowest_first(number, width)
    extra = list(_IDENTIFIER) + numbers + lowest_first(crc32(numbers), _SUM_SIZE)
    return gzip_member((False, 0, 0, _SYSTEM, extra, None, None, False), stream, data)


def read_member(data, start):
    """The first entry, the first batch, the number of batches, the entries, and the index behind."""
    _, frames, after = member_at(data, start)
    header = _header_numbers(data[start:start + HEADER_SIZE])
    if header is None or header[4] != after - start:
        raise WrongMember(8 * start)
    first_entry, count, first_batch, batch_count, _ = header
    try:
        entries = read_frames(frames)
    except WrongFrames:
        raise WrongFrames(8 * start) from None
    if len(entries) != count:
        raise WrongFrames(8 * start)
    return (first_entry, first_batch, batch_count, entries, after)


def read_header(data):
    """The first entry, their number, the first batch, their number, and the size of a member."""
    if len(data) < HEADER_SIZE:
        raise Truncated(8 * len(data))
    header = _header_numbers(data[:HEADER_SIZE])
    if header is None:
        raise WrongMember(0)
    return header


def write_frames(entries):
    """The frames of entries."""
    data = []
    for entry in entries:
        data += put_steps(len(entry)) + entry
    return data


def read_frames(data):
    """The entries of which data is the frames."""
    entries = []
    at = 0
    while at < len(data):
        start = _start_of_entry(data, at)
        if start is None:
            raise WrongFrames(at)
        size, first = start
        entries.append(data[first:first + size])
        at = first + size
    return entries


def deflated(data, level):
    """The stream that an encoder of a level writes when it is fed the data and finished."""
    machine = Deflater(level)
    machine.feed(data)
    machine.finish()
    return machine.take()


def _header_numbers(header):
    """The five numbers in the header of a member, None if it is not such a header."""
    if header[:len(_HEADER_START)] != list(_HEADER_START):
        return None
    numbers = header[len(_HEADER_START):-_SUM_SIZE]
    if number_lowest_first(header[-_SUM_SIZE:]) != crc32(numbers):
        return None
    found = []
    for width in _SIZES:
        found.append(number_lowest_first(numbers[:width]))
        numbers = numbers[width:]
    if not 1 <= found[1] <= _MOST_ENTRIES or not 1 <= found[3] <= found[1]:
        return None
    return tuple(found)


def _start_of_entry(data, at):
    """The size of the entry of the frame at an index, and where it begins; None if it is not right."""
    try:
        size, first = get_steps(data, at)
    except BellowsError:
        return None
    if size > _MOST_BYTES or first + size > len(data):
        return None
    return (size, first)
