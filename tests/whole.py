"""Whole streams for the tests of part 7: streams that end in their last byte, and what they contain."""

import zlib

from checks import some_bytes
from streams import bytes_of, number_bits, placed, plain_blocks, plain_token, some_blocks

EMPTY_FIXED = (1, 0, 0, 0, 0, [], [])


def inflated(stream, dictionary=()):
    """The data of a stream, as zlib reads it."""
    reader = zlib.decompressobj(-15, bytes(dictionary)) if dictionary else zlib.decompressobj(-15)
    return list(reader.decompress(bytes(stream)))


def bits_of(stream, end=None):
    return "".join(number_bits(byte, 8) for byte in stream)[:end]


def with_empty_blocks(source, blocks):
    """The blocks, with some empty ones between them."""
    found = []
    for block in blocks:
        for _ in range(source.choice([0, 0, 1, 2])):
            found.append(EMPTY_FIXED)
        found.append(block)
    return found


def whole_of(source, blocks):
    """The bytes of the blocks, with any bits behind the end, and stored blocks with any fill bits."""
    bits = ""
    for block in blocks:
        if block[0] == 0:
            fill = [source.randrange(2) for _ in range(-(len(bits) + 3) % 8)]
            block = block[:6] + (fill,)
        bits += placed([block])[0]
    while len(bits) % 8:
        bits += source.choice("01")
    return bytes_of(bits)


def some_whole(source, reach=0, most=5):
    """A stream of any blocks, some of them empty."""
    blocks = some_blocks(source, 0, reach, most)
    return whole_of(source, with_empty_blocks(source, blocks))


def stored_block(data, is_last=0, fill=()):
    return (0, is_last, 0, 0, 0, list(data), list(fill))


def fixed_block(items, is_last=0):
    return (1, is_last, 0, 0, 0, list(items), [])


def shifted(source, bits):
    """Fixed blocks that take a number of bits that is `bits` modulo 8, and produce some bytes."""
    # A literal of 9 bits moves what follows by one bit more than one of 8 bits.
    items = [(200,)] * ((bits - 2) % 8) + [(value,) for value in some_bytes(source, 2, 143)]
    return fixed_block(items)


def parts_of(stream):
    """For each block: the bits behind its header, its kind, and its tokens."""
    blocks, end = plain_blocks(stream)
    bits = bits_of(stream)
    found = []
    for kind, _, start, content_start, stop, content, _ in blocks:
        first = content_start - 32 if kind == 0 else start + 3
        tokens = [(byte,) for byte in content] if kind == 0 else [plain_token(item) for item in content]
        found.append((kind, bits[first:stop], tokens))
    return found, end


def put_placed(bits, parts, is_end=True):
    """Place blocks behind bits (point 706), without the zeros that fill up the last byte."""
    for index, (kind, behind, _) in enumerate(parts):
        bits += "1" if is_end and index == len(parts) - 1 else "0"
        bits += number_bits(kind, 2)
        if kind == 0:
            bits += "0" * (-len(bits) % 8)
        bits += behind
    return bits


def token_size(token):
    return 1 if len(token) == 1 else token[0]


def plain_outs(stream):
    found = [0]
    for _, _, tokens in parts_of(stream)[0]:
        found.append(found[-1] + sum(map(token_size, tokens)))
    return found
