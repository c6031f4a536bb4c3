"""Blocks of tokens, their sizes and how they are written (points 501, 502 and 505)."""

from bellows.errors import OutOfRange
from bellows.codes.canon import MOST_BITS
from bellows.codes.shortest import cost, shortest
from bellows.copies.expand import END_OF_BLOCK, symbol_counts
from bellows.copies.symbols import DISTANCE_COUNT, LETTER_COUNT, distance_base, length_base
from bellows.deflate.heads import head_of, head_size
from bellows.inflate.grammar import items_of, put_block
from bellows.inflate.units import FIXED, STORED, fixed_lengths

_WAYS = (0, 1, 2)


def block_size(way, tokens, data, at):
    """The number of bits of a block that starts at a position."""
    _check_way(way)
    if way == STORED:
        return stored_size(len(data), at)
    return coded_size(way, symbol_counts(tokens))


def write_block(writer, way, tokens, data, is_last):
    """Append a block."""
    _check_way(way)
    if way == STORED:
        fill = [0] * (-(writer.count() + 3) % 8)
        content, head = (data, fill)
    elif way == FIXED:
        content, head = (items_of(tokens), [])
    else:
        letters, distances = dynamic_lengths(tokens)
        content, head = (items_of(tokens), head_of(letters, distances))
    put_block(writer, (way, is_last, 0, 0, 0, content, head))


def best_way(tokens, data, at):
    """The pair of the way with the least size, and this size."""
    sizes = [block_size(way, tokens, data, at) for way in _WAYS]
    least = min(sizes)
    return (sizes.index(least), least)


def dynamic_lengths(tokens):
    """The code lengths of the letters and of the distances in a dynamic block."""
    return lengths_of_counts(symbol_counts(tokens))


def stored_size(size, at):
    """The number of bits of a stored block of so many bytes that starts at a position."""
    return 3 + -(at + 3) % 8 + 32 + 8 * size


def coded_size(way, counts):
    """The number of bits of a fixed or dynamic block with these symbol counts."""
    if way == FIXED:
        letters, distances = fixed_lengths()
        bits = 3
    else:
        letters, distances = lengths_of_counts(counts)
        bits = 3 + head_size(head_of(letters, distances))
    return bits + cost(letters, counts[0]) + cost(distances, counts[1]) + _extra_bits(counts)


def lengths_of_counts(counts):
    """The code lengths of a dynamic block with these symbol counts."""
    letter_counts, distance_counts = counts
    letters = shortest(letter_counts, MOST_BITS)
    if sum(distance_counts) == 0:
        return (letters, [1] + [0] * (DISTANCE_COUNT - 1))
    return (letters, shortest(distance_counts, MOST_BITS))


def _check_way(way):
    if way not in _WAYS:
        raise OutOfRange(way)


def _extra_bits(counts):
    """The number of extra bits of all symbols that are counted."""
    letter_counts, distance_counts = counts
    bits = 0
    for symbol in range(END_OF_BLOCK + 1, LETTER_COUNT):
        if letter_counts[symbol] > 0:
            bits += letter_counts[symbol] * length_base(symbol)[0]
    for symbol in range(DISTANCE_COUNT):
        if distance_counts[symbol] > 0:
            bits += distance_counts[symbol] * distance_base(symbol)[0]
    return bits
