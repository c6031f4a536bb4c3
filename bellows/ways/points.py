"""Access points, from which a stream can be read (points 702 to 705)."""

from bellows.errors import OutOfRange
from bellows.base.sums import adler32, crc32
from bellows.inflate.machine import MOST_TAIL, resume
from bellows.inflate.whole import MOST_LIMIT
from bellows.ways.streams import outs_of, read_stream


def outs(stream):
    """How many bytes the blocks before each border of a stream produce."""
    return outs_of(read_stream(stream)[0])


def reach(outs, index):
    """How many bytes must be decoded and discarded in the worst case before a wanted byte."""
    _check_index(outs, index)
    most = 0
    for place, border in enumerate(index):
        after = index[place + 1] if place + 1 < len(index) else len(outs) - 1
        most = max(most, outs[after] - outs[border] - 1)
    return most


def choose(outs, count):
    """The index of at most `count + 1` borders with the least reach, and with the fewest borders."""
    least = 0
    most = max(outs[-1] - 1, 0)
    while least < most:
        middle = (least + most) // 2
        index = _index_with_reach(outs, middle)
        if index is not None and len(index) <= count + 1:
            most = middle
        else:
            least = middle + 1
    return _index_with_reach(outs, least)


def access_points(stream, count):
    """The states at the borders of the index that is chosen."""
    blocks, data, _ = read_stream(stream)
    borders = outs_of(blocks)
    states = []
    adler = 1
    crc = 0
    given = 0
    for border in choose(borders, count):
        part = data[given:borders[border]]
        given = borders[border]
        adler = adler32(part, adler)
        crc = crc32(part, crc)
        tail = data[max(0, given - MOST_TAIL):given]
        states.append((blocks[border][2], given, tail, adler, crc))
    return states


def read_at(stream, points, start, count):
    """At most `count` bytes of the data from `start` on."""
    if start < 0 or count < 0:
        raise OutOfRange(0)
    if count == 0:
        return []
    state = [point for point in points if point[1] <= start][-1]
    skipped = start - state[1]
    decoder = resume(state, limit=MOST_LIMIT)
    found = decoder.feed(stream[state[0] // 8:], skipped + count)
    if len(found) < skipped + count:
        decoder.close()
    return found[skipped:]


def _check_index(borders, index):
    if index == [] or index[0] != 0:
        raise OutOfRange(0)
    for place, border in enumerate(index):
        if border >= len(borders) - 1 or (place > 0 and border <= index[place - 1]):
            raise OutOfRange(0)


def _index_with_reach(borders, most):
    """The index with the fewest borders whose reach is not greater; None if there is none."""
    last = len(borders) - 1
    index = [0]
    border = 0
    while borders[last] - borders[border] > most + 1:
        after = border
        while after + 1 < last and borders[after + 1] <= borders[border] + most + 1:
            after += 1
        if after == border:
            return None
        index.append(after)
        border = after
    return index
