"""Streams for the tests: a plain reader and a plain writer, word by word as part 4 says, and blocks
of all sorts that are drawn at random."""

from bellows.errors import (
    BadCode, BadCount, BadDistances, BadKind, BadLengths, BadLetters, BadRepeat, BadStored, BadSymbol,
    BellowsError, NoEnd, TooFar, TooMuch, Truncated,
)
from checks import complete_lengths, some_bytes

FIXED_LETTERS = [8] * 144 + [9] * 112 + [7] * 24 + [8] * 8
FIXED_DISTANCES = [5] * 32
NUMBER_ORDER = [16, 17, 18, 0, 8, 7, 9, 6, 10, 5, 11, 4, 12, 3, 13, 2, 14, 1, 15]
ROW_BITS = {16: 2, 17: 3, 18: 7}
ROW_SIZES = {16: 3, 17: 3, 18: 11}


# The tables of point 303, as (number of extra bits, base).

def length_row(symbol):
    if symbol == 285:
        return 0, 258
    if symbol <= 264:
        return 0, symbol - 254
    e = (symbol - 261) // 4
    return e, 2 ** (e + 2) + (symbol - 265) % 4 * 2 ** e + 3


def distance_row(symbol):
    if symbol <= 3:
        return 0, symbol + 1
    e = (symbol - 2) // 2
    return e, 2 ** (e + 1) + symbol % 2 * 2 ** e + 1


def plain_token(item):
    if len(item) == 1:
        return item
    return length_row(item[0])[1] + item[1], distance_row(item[2])[1] + item[3]


def plain_item(token):
    if len(token) == 1:
        return token
    symbol = max(s for s in range(257, 286) if length_row(s)[1] <= token[0])
    distance = max(s for s in range(30) if distance_row(s)[1] <= token[1])
    return (symbol, token[0] - length_row(symbol)[1], distance, token[1] - distance_row(distance)[1])


def plain_codes(lengths):
    """The codes of point 202 as strings of bits, by symbol."""
    found = {}
    code = 0
    for length in range(1, 16):
        code *= 2
        for symbol in [s for s, one in enumerate(lengths) if one == length]:
            found[symbol] = format(code, f"0{length}b")
            code += 1
    return found


def plain_list(rows):
    lengths = []
    for symbol, extra in rows:
        if symbol < 16:
            lengths.append(symbol)
        else:
            value = lengths[-1] if symbol == 16 else 0
            lengths += [value] * (ROW_SIZES[symbol] + extra)
    return lengths


def weight_in_full(lengths):
    """The weight as a share of a complete list's, in units of 2 ** -15."""
    return sum(2 ** (15 - length) for length in lengths if length)


def tables_of(lengths):
    """The symbols by their codes, and the set of all beginnings of codes."""
    symbols = {code: symbol for symbol, code in plain_codes(lengths).items()}
    return symbols, {code[:k] for code in symbols for k in range(16)}


class PlainReader:
    def __init__(self, stream, at):
        self.bits = "".join(format(byte, "08b")[::-1] for byte in stream)
        self.at = at

    def number(self, width):
        if self.at + width > len(self.bits):
            raise Truncated(len(self.bits))
        found = self.bits[self.at:self.at + width]
        self.at += width
        return int("0" + found[::-1], 2)

    def symbol(self, tables):
        symbols, prefixes = tables
        start = self.at
        read = ""
        while symbols:
            if start + len(read) == len(self.bits):
                raise Truncated(len(self.bits))
            read += self.bits[start + len(read)]
            if read in symbols:
                self.at = start + len(read)
                return symbols[read]
            if read not in prefixes:
                break
        raise BadCode(start)


def _is_one_or_complete(lengths):
    return weight_in_full(lengths) == 32768 or sorted(lengths) == [0] * (len(lengths) - 1) + [1]


def plain_head(reader):
    """Steps 3 and 4 of point 406."""
    counts = []
    for least, most in [(257, 286), (1, 30)]:
        at = reader.at
        counts.append(reader.number(5) + least)
        if counts[-1] > most:
            raise BadCount(at)
    many = reader.number(4) + 4
    at = reader.at
    numbers = [reader.number(3) for _ in range(many)]
    small = [0] * 19
    for symbol, number in zip(NUMBER_ORDER, numbers):
        small[symbol] = number
    if weight_in_full(small) != 32768:
        raise BadLengths(at)
    tables = tables_of(small)
    rows = []
    first = reader.at
    while len(plain_list(rows)) < sum(counts):
        at = reader.at
        symbol = reader.symbol(tables)
        extra = reader.number(ROW_BITS.get(symbol, 0))
        if symbol == 16 and not rows:
            raise BadRepeat(at)
        rows.append((symbol, extra))
        if len(plain_list(rows)) > sum(counts):
            raise BadRepeat(at)
    lengths = plain_list(rows)
    letters, distances = lengths[:counts[0]], lengths[counts[0]:]
    if letters[256] == 0:
        raise NoEnd(first)
    if not _is_one_or_complete(letters):
        raise BadLetters(first)
    if not _is_one_or_complete(distances) and any(distances):
        raise BadDistances(first)
    return (counts[0], counts[1], numbers, rows), letters, distances


def plain_header(reader):
    is_last = reader.number(1)
    at = reader.at
    kind = reader.number(2)
    if kind == 3:
        raise BadKind(at)
    return is_last, kind


def plain_stored(reader):
    fill = []
    while reader.at % 8:
        fill.append(reader.number(1))
    size = reader.number(16)
    at = reader.at
    if reader.number(16) != size ^ 65535:
        raise BadStored(at)
    return fill, size


def plain_next(reader, letter_tables, distance_tables):
    """An item as step 5 of point 406 reads it, None for the symbol 256."""
    at = reader.at
    symbol = reader.symbol(letter_tables)
    if symbol == 256:
        return None
    if symbol < 256:
        return (symbol,)
    if symbol > 285:
        raise BadSymbol(at)
    extra = reader.number(length_row(symbol)[0])
    at = reader.at
    distance = reader.symbol(distance_tables)
    if distance > 29:
        raise BadSymbol(at)
    return symbol, extra, distance, reader.number(distance_row(distance)[0])


def plain_blocks(stream, start=0):
    """The blocks and the end; raises the errors of point 406, apart from those of the output."""
    reader = PlainReader(stream, start)
    blocks = []
    while not blocks or not blocks[-1][1]:
        start = reader.at
        is_last, kind = plain_header(reader)
        if kind == 0:
            head, size = plain_stored(reader)
            content_start = reader.at
            content = [reader.number(8) for _ in range(size)]
        else:
            head, letters, distances = [], FIXED_LETTERS, FIXED_DISTANCES
            if kind == 2:
                head, letters, distances = plain_head(reader)
            content_start = reader.at
            tables = tables_of(letters), tables_of(distances)
            content = list(iter(lambda: plain_next(reader, *tables), None))
        blocks.append((kind, is_last, start, content_start, reader.at, content, head))
    return blocks, reader.at


class PlainUnits:
    """The units of a stream (point 451), as far as they can be executed.

    Each unit is `(end, bytes, is a border behind it)`. `error` is the error of the next unit, a
    `Truncated` if it is incomplete, and None if the stream has ended.
    """

    def __init__(self, stream, start=0, dictionary=(), limit=4096, window=32768, made=0):
        self.reader = PlainReader(stream, start)
        self.history = list(dictionary)
        self.made = made
        self.limit = limit
        self.window = window
        self.units = []
        self.error = None
        try:
            self.read()
        except BellowsError as error:
            self.error = error

    def output(self):
        return [byte for unit in self.units for byte in unit[1]]

    def note(self, made, border=False):
        self.units.append((self.reader.at, list(made), border))

    def produce(self, token, at):
        size = 1 if len(token) == 1 else token[0]
        if len(token) == 2 and (token[1] > self.window or token[1] > len(self.history)):
            raise TooFar(at)
        if self.made + size > self.limit:
            raise TooMuch(at)
        for _ in range(size):
            self.history.append(token[0] if len(token) == 1 else self.history[-token[1]])
        self.made += size
        return self.history[-size:]

    def read(self):
        is_last = 0
        while not is_last:
            if self.reader.at > len(self.reader.bits):
                raise Truncated(len(self.reader.bits))
            is_last, kind = plain_header(self.reader)
            self.note([])
            if kind == 0:
                self.read_stored(is_last)
            else:
                self.read_items(kind, is_last)

    def read_stored(self, is_last):
        _, size = plain_stored(self.reader)
        self.note([], size == 0 and not is_last)
        for left in reversed(range(size)):
            at = self.reader.at
            made = self.produce((self.reader.number(8),), at)
            self.note(made, left == 0 and not is_last)

    def read_items(self, kind, is_last):
        letters, distances = FIXED_LETTERS, FIXED_DISTANCES
        if kind == 2:
            _, letters, distances = plain_head(self.reader)
            self.note([])
        tables = tables_of(letters), tables_of(distances)
        while True:
            at = self.reader.at
            item = plain_next(self.reader, *tables)
            if item is None:
                self.note([], not is_last)
                return
            self.note(self.produce(plain_token(item), at))


# Writing

def number_bits(value, width):
    return "".join(str(value >> k & 1) for k in range(width))


def bytes_of(bits, filling="0"):
    bits += filling * (-len(bits) % 8)
    return [int(bits[k:k + 8][::-1], 2) for k in range(0, len(bits), 8)]


def head_bits(head):
    letter_count, distance_count, numbers, rows = head
    small = [0] * 19
    for symbol, number in zip(NUMBER_ORDER, numbers):
        small[symbol] = number
    codes = plain_codes(small)
    bits = number_bits(letter_count - 257, 5) + number_bits(distance_count - 1, 5)
    bits += number_bits(len(numbers) - 4, 4) + "".join(number_bits(one, 3) for one in numbers)
    return bits + "".join(codes[row[0]] + number_bits(row[1], ROW_BITS.get(row[0], 0)) for row in rows)


def plain_lengths(block):
    if block[0] == 1:
        return FIXED_LETTERS, FIXED_DISTANCES
    lengths = plain_list(block[6][3])
    return lengths[:block[6][0]], lengths[block[6][0]:]


def item_bits(item, letter_codes, distance_codes):
    bits = letter_codes[item[0]]
    if len(item) > 1:
        bits += number_bits(item[1], length_row(item[0])[0])
        bits += distance_codes[item[2]] + number_bits(item[3], distance_row(item[2])[0])
    return bits


def block_bits(block):
    """The bits of a block in two parts: up to its content, and the rest."""
    kind, is_last, _, _, _, content, head = block
    before = number_bits(is_last, 1) + number_bits(kind, 2)
    if kind == 0:
        before += "".join(map(str, head)) + number_bits(len(content), 16)
        before += number_bits(len(content) ^ 65535, 16)
        return before, "".join(number_bits(byte, 8) for byte in content)
    if kind == 2:
        before += head_bits(head)
    letters, distances = (plain_codes(lengths) for lengths in plain_lengths(block))
    return before, "".join(item_bits(item, letters, distances) for item in content) + letters[256]


def placed(blocks, start=0):
    """The bits of the blocks, and the blocks with their positions in a stream from `start` on."""
    bits = ""
    found = []
    for block in blocks:
        before, behind = block_bits(block)
        at = start + len(bits)
        bits += before + behind
        found.append(block[:2] + (at, at + len(before), start + len(bits)) + block[5:])
    return bits, found


# Blocks of all sorts

def some_code(source, size, must, most=15):
    """Code lengths with codes for the symbols in `must`, complete, or a single 1."""
    many = source.choice([len(must), len(must) + 1, min(size, len(must) + source.randint(0, 40)), size])
    many = min(many, size)
    others = [symbol for symbol in range(size) if symbol not in must]
    used = list(must) + source.sample(others, many - len(must))
    lengths = [0] * size
    if many == 1:
        lengths[used[0]] = 1
    else:
        for symbol, length in zip(used, complete_lengths(source, many, most)):
            lengths[symbol] = length
    return lengths


def some_rows(source, lengths):
    """Any rows that describe the list."""
    rows = []
    at = 0
    while at < len(lengths):
        same = 1
        while at + same < len(lengths) and lengths[at + same] == lengths[at]:
            same += 1
        choices = [(lengths[at], 0)]
        if at and lengths[at] == lengths[at - 1]:
            choices += [(16, size - 3) for size in range(3, min(same, 6) + 1)]
        if lengths[at] == 0:
            choices += [(17, size - 3) for size in range(3, min(same, 10) + 1)]
            choices += [(18, size - 11) for size in range(11, min(same, 138) + 1)]
        rows.append(source.choice(choices[-source.randint(1, len(choices)):]))
        at = len(plain_list(rows))
    return rows


def some_head(source, letters, distances):
    rows = some_rows(source, letters + distances)
    used = {symbol for symbol, _ in rows}
    while len(used) < 2 or source.random() < 0.3 and len(used) < 19:
        used.add(source.randrange(19))
    small = dict(zip(sorted(used), complete_lengths(source, len(used), 7)))
    numbers = [small.get(symbol, 0) for symbol in NUMBER_ORDER]
    least = max([4] + [k + 1 for k in range(19) if numbers[k]])
    return len(letters), len(distances), numbers[:source.choice([least, least, 19])], rows


def some_distances(source):
    size = source.choice([1, 2, 30, source.randint(1, 30)])
    way = source.randrange(4)
    if way == 0:
        return [0] * size
    return some_code(source, size, [source.randrange(size)], 15)


def some_item(source, letters, distances, reach):
    """An item with symbols that have codes and a distance that is not greater than `reach`."""
    symbol = source.choice([s for s, length in enumerate(letters) if length and s < 286])
    if symbol == 256:
        return None
    if symbol < 256:
        return (symbol,)
    near = [s for s, length in enumerate(distances) if length and s < 30 and distance_row(s)[1] <= reach]
    if not near:
        return None
    distance = source.choice(near)
    extra_bits, base = distance_row(distance)
    most = min(2 ** extra_bits - 1, reach - base)
    length_bits = length_row(symbol)[0]
    return (symbol, source.choice([0, 2 ** length_bits - 1, source.randrange(2 ** length_bits)]),
            distance, source.choice([0, most, source.randint(0, most)]))


def some_block(source, is_last, at, reach, kind=None):
    """A block that is possible at a position, and the number of bytes that it produces."""
    if kind is None:
        kind = source.randrange(3)
    if kind == 0:
        content = some_bytes(source, source.choice([0, 1, 2, source.randint(0, 40)]))
        head = [source.randrange(2) for _ in range(-(at + 3) % 8)]
        return (0, is_last, 0, 0, 0, content, head), len(content)
    head, letters, distances = [], FIXED_LETTERS, FIXED_DISTANCES
    if kind == 2:
        letters = some_code(source, source.choice([257, 286, source.randint(257, 286)]), [256])
        distances = some_distances(source)
        head = some_head(source, letters, distances)
    content = []
    made = 0
    for _ in range(source.choice([0, 1, 3, source.randint(0, 30)])):
        item = some_item(source, letters, distances, reach + made)
        if item is not None:
            content.append(item)
            made += 1 if len(item) == 1 else plain_token(item)[0]
    return (kind, is_last, 0, 0, 0, content, head), made


def some_blocks(source, start=0, reach=0, most=4):
    """A legal list of blocks for a position, of which no copy reaches too far."""
    blocks = []
    many = source.randint(1, most)
    at = start
    for k in range(many):
        block, made = some_block(source, int(k == many - 1), at, reach)
        blocks.append(block)
        at += sum(map(len, block_bits(block)))
        reach += made
    return blocks


def some_stream(source, start=0, reach=0, most=4):
    """The bytes of a stream from a position on, its blocks with their positions, and its end."""
    bits, blocks = placed(some_blocks(source, start, reach, most), start)
    before = "".join(source.choice("01") for _ in range(start))
    filling = source.choice("01")
    return bytes_of(before + bits, filling), blocks, start + len(bits)


def spoilt(source, stream):
    """A stream in which some bits are changed or which is cut."""
    stream = list(stream)
    for _ in range(source.choice([0, 1, 1, 2, 5])):
        k = source.choice([source.randrange(8 * len(stream)), source.randrange(min(100, 8 * len(stream)))])
        stream[k // 8] ^= 1 << k % 8
    if source.random() < 0.3:
        del stream[source.randrange(len(stream) + 1):]
    return stream
