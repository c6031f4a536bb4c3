"""The format of streams, and reading it piece by piece (points 401 to 406)."""

from bellows.errors import (
    BadCount, BadDistances, BadKind, BadLengths, BadLetters, BadRepeat, BadStored, BadSymbol, NoEnd,
)
from bellows.codes.canon import is_complete
from bellows.codes.reading import Book
from bellows.copies.expand import END_OF_BLOCK
from bellows.copies.symbols import DISTANCE_COUNT, LAST_LETTER, distance_base, length_base

STORED = 0
FIXED = 1
DYNAMIC = 2

LEAST_LETTERS = 257
MOST_LETTERS = 286
LEAST_DISTANCES = 1
MOST_DISTANCES = 30
LEAST_NUMBERS = 4
# The symbols whose code lengths the small numbers are, in the order in which these are stored.
NUMBER_ORDER = (16, 17, 18, 0, 8, 7, 9, 6, 10, 5, 11, 4, 12, 3, 13, 2, 14, 1, 15)

REPEAT_LAST = 16
FEW_ZEROS = 17
MANY_ZEROS = 18
# The number of extra bits of these three symbols, and how many elements they describe at least.
_REPEATS = {16: (2, 3), 17: (3, 3), 18: (7, 11)}


def fixed_lengths():
    """The code lengths of the letters and of the distances in a fixed block."""
    return ([8] * 144 + [9] * 112 + [7] * 24 + [8] * 8, [5] * 32)


def row_parts(symbol):
    """The number of extra bits of a row, and the least number of elements that it describes."""
    return _REPEATS.get(symbol, (0, 1))


def described_by(rows):
    """The list of code lengths that rows describe; the first row does not repeat."""
    lengths = []
    for row in rows:
        last = lengths[-1] if lengths != [] else 0
        lengths += _described_by_row(row, last)
    return lengths


def lengths_of_head(head):
    """The code lengths of the letters and of the distances that a head gives."""
    letter_count, _, _, rows = head
    lengths = described_by(rows)
    return (lengths[:letter_count], lengths[letter_count:])


def lengths_of_numbers(numbers):
    """The code lengths of the symbols of rows."""
    lengths = [0] * len(NUMBER_ORDER)
    for symbol, number in zip(NUMBER_ORDER, numbers):
        lengths[symbol] = number
    return lengths


def are_letters(letters):
    """Whether a block may have these code lengths of letters, apart from the symbol 256."""
    return is_complete(letters) or _is_single(letters)


def are_distances(distances):
    """Whether a block may have these code lengths of distances."""
    return is_complete(distances) or _is_single(distances) or sum(distances) == 0


def read_header(reader):
    """Read the pair of the bit that marks the last block, and the kind."""
    is_last = reader.take(1)
    place = reader.place()
    kind = reader.take(2)
    if kind > DYNAMIC:
        raise BadKind(place)
    return (is_last, kind)


def read_stored_start(reader):
    """Read what stands before the bytes of a stored block: the fill bits, and the size."""
    fill = [reader.take(1) for _ in range(-reader.place() % 8)]
    size = reader.take(16)
    place = reader.place()
    if reader.take(16) != size ^ 65535:
        raise BadStored(place)
    return (fill, size)


def read_head(reader):
    """Read the head of a dynamic block."""
    letter_count = _read_count(reader, LEAST_LETTERS, MOST_LETTERS)
    distance_count = _read_count(reader, LEAST_DISTANCES, MOST_DISTANCES)
    number_count = reader.take(4) + LEAST_NUMBERS
    place = reader.place()
    numbers = [reader.take(3) for _ in range(number_count)]
    number_lengths = lengths_of_numbers(numbers)
    if not is_complete(number_lengths):
        raise BadLengths(place)
    place = reader.place()
    rows = _read_rows(reader, Book(number_lengths), letter_count + distance_count)
    head = (letter_count, distance_count, numbers, rows)
    letters, distances = lengths_of_head(head)
    if letters[END_OF_BLOCK] == 0:
        raise NoEnd(place)
    if not are_letters(letters):
        raise BadLetters(place)
    if not are_distances(distances):
        raise BadDistances(place)
    return head


def read_item(reader, letters, distances):
    """Read an item, or the tuple of the symbol 256."""
    place = reader.place()
    symbol = letters.read(reader)
    if symbol > LAST_LETTER:
        raise BadSymbol(place)
    if symbol <= END_OF_BLOCK:
        return (symbol,)
    extra = reader.take(length_base(symbol)[0])
    place = reader.place()
    distance_symbol = distances.read(reader)
    if distance_symbol >= DISTANCE_COUNT:
        raise BadSymbol(place)
    return (symbol, extra, distance_symbol, reader.take(distance_base(distance_symbol)[0]))


def token_of(item):
    """The token that an item stands for."""
    if len(item) == 1:
        return item
    symbol, extra, distance_symbol, distance_extra = item
    return (length_base(symbol)[1] + extra, distance_base(distance_symbol)[1] + distance_extra)


def _is_single(lengths):
    return sum(lengths) == 1


def _read_count(reader, least, most):
    place = reader.place()
    count = reader.take(5) + least
    if count > most:
        raise BadCount(place)
    return count


def _read_rows(reader, book, full_size):
    """Read rows until the list that they describe has its full size."""
    rows = []
    described = 0
    while described < full_size:
        place = reader.place()
        symbol = book.read(reader)
        extra_bits, least = row_parts(symbol)
        extra = reader.take(extra_bits)
        described += least + extra
        if (symbol == REPEAT_LAST and rows == []) or described > full_size:
            raise BadRepeat(place)
        rows.append((symbol, extra))
    return rows


def _described_by_row(row, last):
    """The elements that a row describes, where `last` is the one before them."""
    symbol, extra = row
    if symbol < REPEAT_LAST:
        return [symbol]
    size = row_parts(symbol)[1] + extra
    if symbol == REPEAT_LAST:
        return [last] * size
    return [0] * size
