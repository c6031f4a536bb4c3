"""Streams without a wrapper, their blocks, and blocks in new places (points 701, 702 and 706)."""

from bellows.errors import Extra
from bellows.copies.expand import token_size
from bellows.inflate.arriving import ArrivingBits
from bellows.inflate.grammar import block_tokens, read_blocks
from bellows.inflate.units import STORED
from bellows.inflate.whole import MOST_LIMIT, inflate

_MOST_WIDTH = 64
_HEADER_SIZE = 3
# The size of a stored block and its complement.
_SIZES_SIZE = 32


def read_stream(stream, before=()):
    """The blocks of a stream, its data, and its end; `before` is what copies may reach into."""
    data, end = inflate(stream, dictionary=before, limit=MOST_LIMIT)
    after = (end + 7) // 8
    if after < len(stream):
        raise Extra(8 * after)
    return (read_blocks(stream)[0], data, end)


def outs_of(blocks):
    """How many bytes the blocks before each border produce."""
    found = [0]
    for block in blocks:
        found.append(found[-1] + size_of_block(block))
    return found


def size_of_block(block):
    """The number of bytes that a block produces."""
    return sum([token_size(token) for token in block_tokens(block)])


def place_blocks(writer, stream, blocks, is_end):
    """Append blocks of a stream; the last one of them is marked if the new stream ends with it."""
    bits = ArrivingBits(stream)
    for index, block in enumerate(blocks):
        place_block(writer, bits, block, int(is_end and index == len(blocks) - 1))


def place_block(writer, bits, block, is_last):
    """Append a block of the stream with these bits."""
    kind, _, start, content_start, stop, _, _ = block
    writer.put(is_last, 1)
    writer.put(kind, 2)
    if kind == STORED:
        writer.align()
        copy_bits(writer, bits, content_start - _SIZES_SIZE, stop)
    else:
        copy_bits(writer, bits, start + _HEADER_SIZE, stop)


def copy_bits(writer, bits, start, stop):
    """Append the bits from one position up to another one."""
    bits.move(start)
    while start < stop:
        width = min(_MOST_WIDTH, stop - start)
        writer.put(bits.take(width), width)
        start += width
