"""The bytes and numbers of which headers and checksums consist (point 601)."""

from bellows.errors import Truncated


def taken(text, start, count):
    """So many bytes from an index on."""
    if start + count > len(text):
        raise Truncated(8 * len(text))
    return text[start:start + count]


def number_highest_first(values):
    """The number that bytes stand for, the highest one first."""
    number = 0
    for byte in values:
        number = 256 * number + byte
    return number


def number_lowest_first(values):
    """The number that bytes stand for, the lowest one first."""
    return number_highest_first(values[::-1])


def highest_first(number, count):
    """The bytes of a number, the highest one first."""
    return lowest_first(number, count)[::-1]


def lowest_first(number, count):
    """The bytes of a number, the lowest one first."""
    return [(number >> (8 * index)) & 255 for index in range(count)]
