"""The symbols and extra bits of lengths and distances (points 303 and 304)."""

from bellows.errors import OutOfRange

LEAST_LENGTH = 3
MOST_LENGTH = 258
MOST_DISTANCE = 32768

LAST_LETTER = 285
LETTER_COUNT = 286
DISTANCE_COUNT = 30


def length_parts(length):
    """The symbol, the number of extra bits and the extra value of a length."""
    if not LEAST_LENGTH <= length <= MOST_LENGTH:
        raise OutOfRange(length)
    symbol = _length_symbol(length)
    extra_bits, base = length_base(symbol)
    return (symbol, extra_bits, length - base)


def distance_parts(distance):
    """The symbol, the number of extra bits and the extra value of a distance."""
    if not 1 <= distance <= MOST_DISTANCE:
        raise OutOfRange(distance)
    symbol = _distance_symbol(distance)
    extra_bits, base = distance_base(symbol)
    return (symbol, extra_bits, distance - base)


def length_base(symbol):
    """The number of extra bits and the base of the symbol of a length."""
    if not 257 <= symbol <= LAST_LETTER:
        raise OutOfRange(symbol)
    if symbol == LAST_LETTER:
        return (0, MOST_LENGTH)
    if symbol < 265:
        return (0, symbol - 254)
    extra_bits = (symbol - 261) // 4
    return (extra_bits, (1 << (extra_bits + 2)) + ((symbol - 265) % 4 << extra_bits) + 3)


def distance_base(symbol):
    """The number of extra bits and the base of the symbol of a distance."""
    if not 0 <= symbol < DISTANCE_COUNT:
        raise OutOfRange(symbol)
    if symbol < 4:
        return (0, symbol + 1)
    extra_bits = (symbol - 2) // 2
    return (extra_bits, (1 << (extra_bits + 1)) + (symbol % 2 << extra_bits) + 1)


def _length_symbol(length):
    if length == MOST_LENGTH:
        return LAST_LETTER
    if length < 11:
        return length + 254
    # Four symbols share each number of extra bits, which the size of the number gives; the two
    # bits below its highest one tell which of the four it is.
    rest = length - 3
    extra_bits = rest.bit_length() - 3
    return 261 + 4 * extra_bits + (rest >> extra_bits) % 4


def _distance_symbol(distance):
    if distance < 5:
        return distance - 1
    rest = distance - 1
    extra_bits = rest.bit_length() - 2
    return 2 + 2 * extra_bits + (rest >> extra_bits) % 2
