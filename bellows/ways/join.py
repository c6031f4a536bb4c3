"""Joining and cutting streams, and joining texts (points 706 to 710)."""

from bellows.errors import NotIndependent, OutOfRange
from bellows.base.bits import BitWriter
from bellows.base.sums import adler32_joined, crc32_joined
from bellows.copies.expand import token_size
from bellows.inflate.arriving import ArrivingBits
from bellows.inflate.grammar import block_tokens
from bellows.inflate.whole import MOST_LIMIT
from bellows.wraps.fields import number_lowest_first
from bellows.wraps.gzips import TAIL_SIZE, all_parts, gzip_header, gzip_tail
from bellows.wraps.zlibs import HEAD_SIZE, SUM_SIZE, read_head, read_sum, whole_parts, zlib_tail
from bellows.ways.streams import copy_bits, place_blocks, read_stream

# A fixed block without items.
_EMPTY_STREAM = (3, 0)


def join(first, second, *, leaning=False):
    """One stream with the data of two streams."""
    blocks, data, end = read_stream(first)
    before = data if leaning else []
    more, _, _ = read_stream(second, before)
    return _joined(first, blocks[-1][2], end, [(second, more)])


def independent(stream, start, stop):
    """Whether no copy in the blocks from `start` to `stop - 1` reaches before them."""
    blocks, _, _ = read_stream(stream)
    _check_borders(blocks, start, stop)
    return _first_reaching(blocks, start, stop) is None


def cut(stream, start, stop):
    """The blocks from `start` to `stop - 1` as a stream."""
    blocks, _, _ = read_stream(stream)
    _check_borders(blocks, start, stop)
    if start == stop:
        return list(_EMPTY_STREAM)
    reaching = _first_reaching(blocks, start, stop)
    if reaching is not None:
        raise NotIndependent(reaching)
    writer = BitWriter()
    place_blocks(writer, stream, blocks[start:stop], True)
    return writer.data()


def gzip_merge(text):
    """One member with the data of all members of a gzip text."""
    members = all_parts(text, MOST_LIMIT)
    streams = []
    crc = 0
    size = 0
    for _, at, data, after in members:
        tail = after - TAIL_SIZE
        streams.append(text[at:tail])
        crc = crc32_joined(crc, number_lowest_first(text[tail:tail + 4]), len(data))
        size += len(data)
    return gzip_header(members[0][0]) + _all_joined(streams) + gzip_tail(crc, size)


def zlib_join(first, second):
    """One text with the data of two zlib texts."""
    start, _, end = whole_parts(first, None, MOST_LIMIT)
    other_start, data, other_end = whole_parts(second, None, MOST_LIMIT)
    tail = end - SUM_SIZE
    other_tail = other_end - SUM_SIZE
    stream = join(first[start:tail], second[other_start:other_tail])
    checksum = adler32_joined(read_sum(first, tail), read_sum(second, other_tail), len(data))
    header = first if read_head(first)[0] >= read_head(second)[0] else second
    return header[:HEAD_SIZE] + stream + zlib_tail(checksum)


def _all_joined(streams):
    """The stream that is joined of several ones, each of which is read only once."""
    if len(streams) == 1:
        return streams[0]
    blocks, _, end = read_stream(streams[0])
    others = [(stream, read_stream(stream)[0]) for stream in streams[1:]]
    return _joined(streams[0], blocks[-1][2], end, others)


def _joined(first, mark, end, others):
    """The bits of a stream, with a 0 as the mark of its last block, and then the blocks of others."""
    writer = BitWriter()
    bits = ArrivingBits(first)
    copy_bits(writer, bits, 0, mark)
    writer.put(0, 1)
    copy_bits(writer, bits, mark + 1, end)
    for index, (stream, blocks) in enumerate(others):
        place_blocks(writer, stream, blocks, index == len(others) - 1)
    return writer.data()


def _check_borders(blocks, start, stop):
    if not 0 <= start <= stop <= len(blocks):
        raise OutOfRange(0)


def _first_reaching(blocks, start, stop):
    """The number of the first block with a copy that reaches before a border, None if there is none."""
    made = 0
    for number in range(start, stop):
        for token in block_tokens(blocks[number]):
            if len(token) == 2 and token[1] > made:
                return number
            made += token_size(token)
    return None
