"""The code lengths with the least cost, and their certificate (points 204 to 208)."""

from bellows.errors import OutOfRange, TooNarrow
from bellows.codes.canon import MOST_BITS, is_oversubscribed

_PAIR = -1


def cost(lengths, counts):
    """The sum of all products of count and length."""
    return sum([length * count for length, count in zip(lengths, counts)])


def shortest(counts, most):
    """The lengths of at most `most` bits that serve the counts with the least cost."""
    rows = certificate(counts, most)
    if rows == []:
        return _lengths_without_rows(counts)
    lengths = [0] * len(counts)
    taken = _taken_from_first(counts)
    for row in rows:
        pairs = 0
        for _, symbol in row[:taken]:
            if symbol == _PAIR:
                pairs += 1
            else:
                lengths[symbol] += 1
        taken = 2 * pairs
    return lengths


def certificate(counts, most):
    """The rows from which the lengths are determined, row 0 first."""
    _check_range(counts, most)
    many = _used(counts)
    if many > 1 << most:
        raise TooNarrow(many)
    if many < 2:
        return []
    return _formed_rows(counts, most)


def check_lengths(counts, most, lengths, rows):
    """Whether the rows prove that the lengths have the least cost."""
    _check_range(counts, most)
    if _used(counts) < 2:
        return rows == [] and lengths == _lengths_without_rows(counts)
    if not _serve(lengths, counts, most) or rows != _formed_rows(counts, most):
        return False
    taken = rows[0][:_taken_from_first(counts)]
    return cost(lengths, counts) == sum([value for value, _ in taken])


def _check_range(counts, most):
    if not 1 <= most <= MOST_BITS:
        raise OutOfRange(-1)
    for index, count in enumerate(counts):
        if not 0 <= count < 2 ** 32:
            raise OutOfRange(index)


def _used(counts):
    return len(counts) - counts.count(0)


def _taken_from_first(counts):
    return 2 * _used(counts) - 2


def _lengths_without_rows(counts):
    """The lengths for at most one count greater than 0: a single symbol still needs a code."""
    return [min(count, 1) for count in counts]


def _formed_rows(counts, most):
    symbols = [(count, symbol) for symbol, count in enumerate(counts) if count > 0]
    rows = []
    pairs = []
    for _ in range(most):
        # Sorting keeps the order of equal values, which is the one that point 205 asks for.
        row = sorted(symbols + pairs, key=lambda item: item[0])
        pairs = [(row[k][0] + row[k + 1][0], _PAIR) for k in range(0, len(row) - 1, 2)]
        rows.append(row)
    rows.reverse()
    return rows


def _serve(lengths, counts, most):
    if len(lengths) != len(counts):
        return False
    for length, count in zip(lengths, counts):
        if not 0 <= length <= most or (length == 0) != (count == 0):
            return False
    return not is_oversubscribed(lengths)
