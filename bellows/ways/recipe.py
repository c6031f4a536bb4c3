"""Recipes of streams, and the same data in fewer bits (points 711 to 714)."""

from bellows.base.bits import BitReader, BitWriter
from bellows.copies.expand import token_size
from bellows.copies.finder import candidates, search
from bellows.copies.symbols import MOST_DISTANCE, MOST_LENGTH
from bellows.deflate.blocks import block_size, stored_size, write_block
from bellows.inflate.arriving import ArrivingBits
from bellows.inflate.grammar import block_tokens
from bellows.inflate.units import DYNAMIC, FIXED, STORED, token_of
from bellows.ways.guessing import all_guesses, told_item
from bellows.ways.rebuilding import Rebuilding
from bellows.ways.streams import place_block, read_stream, size_of_block

_MOST_STORED = 65535


def guess(data, index):
    """The copy `(length, distance)` that is guessed at an index of data, 0 for a literal."""
    places = candidates(data, index, 0, MOST_DISTANCE)
    copy = search(data, index, len(data), places, MOST_LENGTH, 0)
    if copy == (0, 0):
        return 0
    return copy


def recipe(stream):
    """Everything about a stream except its data, as a list of integers."""
    blocks, data, end = read_stream(stream)
    guesses = all_guesses(data)
    found = []
    at = 0
    for block in blocks:
        found += _recipe_of_head(block)
        if block[0] != STORED:
            found += _recipe_of_items(block[5], guesses, at)
        at += size_of_block(block)
    spare = BitReader(stream, end)
    found.append(spare.take(spare.left()))
    return found


def rebuild(data, recipe):
    """The stream that has this data and this recipe."""
    return Rebuilding(data, recipe).stream()


def squeeze(stream):
    """A stream with the same data, of which each block has its shortest form."""
    blocks, data, _ = read_stream(stream)
    writer = BitWriter()
    bits = ArrivingBits(stream)
    at = 0
    for index, block in enumerate(blocks):
        after = at + size_of_block(block)
        _put_shortest(writer, bits, block, data[at:after], int(index == len(blocks) - 1))
        at = after
    return writer.data()


def _recipe_of_head(block):
    kind, is_last, _, _, _, content, head = block
    found = [is_last + 2 * kind]
    if kind == STORED:
        fill = sum([bit << index for index, bit in enumerate(head)])
        found += [fill, len(content)]
    elif kind == DYNAMIC:
        letter_count, distance_count, numbers, rows = head
        found += [letter_count, distance_count, len(numbers)] + numbers + [len(rows)]
        for symbol, extra in rows:
            found += [symbol, extra]
    return found


def _recipe_of_items(items, guesses, at):
    """The number of the items, and then how many agree with the guesses, and the others, in turn."""
    found = [len(items)]
    agreeing = 0
    for item in items:
        told = told_item(item)
        if told == guesses[at]:
            agreeing += 1
        else:
            found += [agreeing] + told
            agreeing = 0
        at += token_size(token_of(item))
    if agreeing > 0:
        found.append(agreeing)
    return found


def _put_shortest(writer, bits, block, data, is_last):
    """Append a block as it is, or in the first of the ways that take the fewest bits, if fewer."""
    tokens = block_tokens(block)
    kind, _, start, _, stop, _, _ = block
    least = stop - start
    if kind == STORED:
        # Elsewhere, it may have another number of fill bits.
        least = stored_size(len(data), writer.count())
    best = None
    for way in (STORED, FIXED, DYNAMIC):
        if way != STORED or len(data) <= _MOST_STORED:
            size = block_size(way, tokens, data, writer.count())
            if size < least:
                least = size
                best = way
    if best is None:
        place_block(writer, bits, block, is_last)
    else:
        write_block(writer, best, tokens, data, is_last)
