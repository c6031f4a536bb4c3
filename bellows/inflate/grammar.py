"""The blocks of a stream as they are stored, read and written (points 401 to 407)."""

from bellows.errors import NotLegal
from bellows.base.bits import BitReader
from bellows.codes.canon import is_complete
from bellows.codes.reading import Book
from bellows.copies.expand import END_OF_BLOCK
from bellows.copies.symbols import (
    DISTANCE_COUNT, LAST_LETTER, distance_base, distance_parts, length_base, length_parts,
)
from bellows.deflate.heads import head_size
from bellows.inflate.units import (
    DYNAMIC, FIXED, LEAST_DISTANCES, LEAST_LETTERS, LEAST_NUMBERS, MOST_DISTANCES, MOST_LETTERS,
    NUMBER_ORDER, REPEAT_LAST, STORED, are_distances, are_letters, fixed_lengths, lengths_of_head,
    lengths_of_numbers, read_head, read_header, read_item, read_stored_start, row_parts, token_of,
)

_MOST_STORED = 65535


def read_blocks(stream, start=0):
    """The pair of the blocks of a stream that starts at a position, and its end."""
    reader = BitReader(stream, start)
    fixed_books = _books(fixed_lengths())
    blocks = []
    while blocks == [] or blocks[-1][1] == 0:
        blocks.append(_read_block(reader, fixed_books))
    return (blocks, reader.place())


def is_legal(blocks, start=0):
    """Whether the blocks can be stored as a stream that starts at a position."""
    return _first_wrong(blocks, start) is None


def write_blocks(writer, blocks):
    """Append a legal list of blocks."""
    wrong = _first_wrong(blocks, writer.count())
    if wrong is not None:
        raise NotLegal(wrong)
    for block in blocks:
        put_block(writer, block)


def put_block(writer, block):
    """Append a block that is possible where the writer stands."""
    kind, is_last, _, _, _, content, head = block
    writer.put(is_last, 1)
    writer.put(kind, 2)
    if kind == STORED:
        _put_stored(writer, content, head)
        return
    if kind == DYNAMIC:
        _put_head(writer, head)
    letters, distances = _books(block_lengths(block))
    for item in content:
        _put_item(writer, item, letters, distances)
    letters.write(END_OF_BLOCK, writer)


def block_lengths(block):
    """The code lengths of the letters and of the distances of a block that is not stored."""
    if block[0] == FIXED:
        return fixed_lengths()
    return lengths_of_head(block[6])


def block_tokens(block):
    """The tokens of a block; those of a stored block are literals."""
    if block[0] == STORED:
        return [(byte,) for byte in block[5]]
    return [token_of(item) for item in block[5]]


def items_of(tokens):
    """The items that store a list of tokens."""
    return [_item_of(token) for token in tokens]


def possible_size(block, at):
    """The number of bits of a block that starts at a position, None if it is not possible there."""
    kind, is_last, _, _, _, content, head = block
    if not 0 <= is_last <= 1:
        return None
    if kind == STORED:
        if not _is_possible_stored(content, head, at):
            return None
        return 3 + len(head) + 32 + 8 * len(content)
    if kind == FIXED and head == []:
        return _size_with_content(3, block)
    if kind == DYNAMIC and _is_possible_head(head):
        return _size_with_content(3 + head_size(head), block)
    return None


def _books(lengths):
    letters, distances = lengths
    return (Book(letters), Book(distances))


def _read_block(reader, fixed_books):
    start = reader.place()
    is_last, kind = read_header(reader)
    if kind == STORED:
        head, size = read_stored_start(reader)
        content_start = reader.place()
        content = [reader.take(8) for _ in range(size)]
    else:
        head = []
        books = fixed_books
        if kind == DYNAMIC:
            head = read_head(reader)
            books = _books(lengths_of_head(head))
        content_start = reader.place()
        content = _read_items(reader, books)
    return (kind, is_last, start, content_start, reader.place(), content, head)


def _read_items(reader, books):
    letters, distances = books
    items = []
    item = read_item(reader, letters, distances)
    while item != (END_OF_BLOCK,):
        items.append(item)
        item = read_item(reader, letters, distances)
    return items


def _first_wrong(blocks, start):
    """The index at which a list of blocks fails to be legal, None if it is legal."""
    place = start
    for index, block in enumerate(blocks):
        size = possible_size(block, place)
        if size is None or (block[1] == 1 and index < len(blocks) - 1):
            return index
        place += size
    if blocks == [] or blocks[-1][1] == 0:
        return len(blocks)
    return None


def _is_possible_stored(content, fill, at):
    if not isinstance(fill, list) or len(fill) != -(at + 3) % 8 or len(content) > _MOST_STORED:
        return False
    return _are_within(fill, 1) and _are_within(content, 255)


def _are_within(values, most):
    """Whether all values are integers from 0 to the greatest one."""
    return all([isinstance(value, int) and 0 <= value <= most for value in values])


def _is_possible_head(head):
    """Whether a head passes the steps 3 and 4 of point 406."""
    if not isinstance(head, tuple):
        return False
    letter_count, distance_count, numbers, rows = head
    if not LEAST_LETTERS <= letter_count <= MOST_LETTERS:
        return False
    if not LEAST_DISTANCES <= distance_count <= MOST_DISTANCES:
        return False
    if not LEAST_NUMBERS <= len(numbers) <= len(NUMBER_ORDER) or not _are_within(numbers, 7):
        return False
    number_lengths = lengths_of_numbers(numbers)
    if not is_complete(number_lengths):
        return False
    if not _fill_exactly(rows, number_lengths, letter_count + distance_count):
        return False
    letters, distances = lengths_of_head(head)
    return letters[END_OF_BLOCK] > 0 and are_letters(letters) and are_distances(distances)


def _fill_exactly(rows, number_lengths, full_size):
    """Whether rows can be stored, and their list has its full size with the last one."""
    described = 0
    for index, (symbol, extra) in enumerate(rows):
        if not 0 <= symbol < len(number_lengths) or number_lengths[symbol] == 0:
            return False
        extra_bits, least = row_parts(symbol)
        if not 0 <= extra < 1 << extra_bits or (symbol == REPEAT_LAST and index == 0):
            return False
        described += least + extra
    return described == full_size


def _size_with_content(bits, block):
    """The number of bits with those of the content and its end, None if an item is not possible."""
    letters, distances = _books(block_lengths(block))
    for item in block[5]:
        size = _item_size(item, letters, distances)
        if size == 0:
            return None
        bits += size
    return bits + letters.size(END_OF_BLOCK)


def _item_size(item, letters, distances):
    """The number of bits of an item, 0 if it cannot be stored."""
    if not isinstance(item, tuple):
        return 0
    if len(item) == 1:
        return letters.size(item[0]) if item[0] < END_OF_BLOCK else 0
    symbol, extra, distance_symbol, distance_extra = item
    if not END_OF_BLOCK < symbol <= LAST_LETTER or not 0 <= distance_symbol < DISTANCE_COUNT:
        return 0
    extra_bits = length_base(symbol)[0]
    distance_bits = distance_base(distance_symbol)[0]
    if not 0 <= extra < 1 << extra_bits or not 0 <= distance_extra < 1 << distance_bits:
        return 0
    size = letters.size(symbol)
    distance_size = distances.size(distance_symbol)
    if size == 0 or distance_size == 0:
        return 0
    return size + extra_bits + distance_size + distance_bits


def _put_stored(writer, content, fill):
    for bit in fill:
        writer.put(bit, 1)
    writer.put(len(content), 16)
    writer.put(len(content) ^ 65535, 16)
    for byte in content:
        writer.put(byte, 8)


def _put_head(writer, head):
    letter_count, distance_count, numbers, rows = head
    writer.put(letter_count - LEAST_LETTERS, 5)
    writer.put(distance_count - LEAST_DISTANCES, 5)
    writer.put(len(numbers) - LEAST_NUMBERS, 4)
    for number in numbers:
        writer.put(number, 3)
    book = Book(lengths_of_numbers(numbers))
    for symbol, extra in rows:
        book.write(symbol, writer)
        writer.put(extra, row_parts(symbol)[0])


def _put_item(writer, item, letters, distances):
    letters.write(item[0], writer)
    if len(item) > 1:
        symbol, extra, distance_symbol, distance_extra = item
        writer.put(extra, length_base(symbol)[0])
        distances.write(distance_symbol, writer)
        writer.put(distance_extra, distance_base(distance_symbol)[0])


def _item_of(token):
    if len(token) == 1:
        return token
    symbol, _, extra = length_parts(token[0])
    distance_symbol, _, distance_extra = distance_parts(token[1])
    return (symbol, extra, distance_symbol, distance_extra)
