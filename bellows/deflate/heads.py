"""The heads of dynamic blocks (points 503 and 504)."""

from bellows.codes.shortest import shortest
from bellows.inflate.units import (
    FEW_ZEROS, LEAST_DISTANCES, LEAST_LETTERS, LEAST_NUMBERS, MANY_ZEROS, NUMBER_ORDER, REPEAT_LAST,
    lengths_of_numbers, row_parts,
)

_MOST_NUMBER = 7
_MOST_REPEATED = 6
_MOST_FEW_ZEROS = 10
_MOST_MANY_ZEROS = 138


def rows_of(lengths):
    """The fewest rows that describe a list of code lengths."""
    rows = []
    index = 0
    while index < len(lengths):
        size = _run_size(lengths, index)
        rows += _rows_of_run(lengths[index], size)
        index += size
    return rows


def head_of(letters, distances):
    """The head for the code lengths of letters and of distances."""
    letter_count = _used_size(letters, LEAST_LETTERS)
    distance_count = _used_size(distances, LEAST_DISTANCES)
    rows = rows_of(letters[:letter_count] + distances[:distance_count])
    lengths = _number_lengths(rows)
    numbers = [lengths[symbol] for symbol in NUMBER_ORDER]
    number_count = _used_size(numbers, LEAST_NUMBERS)
    return (letter_count, distance_count, numbers[:number_count], rows)


def head_size(head):
    """The number of bits of a head."""
    _, _, numbers, rows = head
    lengths = lengths_of_numbers(numbers)
    sizes = [lengths[symbol] + row_parts(symbol)[0] for symbol, _ in rows]
    return 5 + 5 + 4 + 3 * len(numbers) + sum(sizes)


def _run_size(lengths, start):
    """How many equal elements stand from an index on."""
    index = start
    while index < len(lengths) and lengths[index] == lengths[start]:
        index += 1
    return index - start


def _rows_of_run(length, size):
    """The fewest rows for equal elements; no row stands for elements of two runs."""
    if length > 0:
        portions = _portions(size - 1, _MOST_REPEATED)
        return [(length, 0)] + [_row(length, portion, True) for portion in portions]
    portions = _portions(size, _MOST_MANY_ZEROS)
    return [_row(0, portion, index > 0) for index, portion in enumerate(portions)]


def _portions(size, most):
    """The sizes of the fewest rows of a run, where a row has 1 element or from 3 to `most`.

    Of the lists with as few sizes, it is the one that begins with the greatest ones.
    """
    portions = []
    while size > 0:
        portion = min(size, most)
        if size == 2:
            portion = 1
        elif size - portion == 2:
            # Two elements that are left would take two rows, and three take one.
            portion -= 1
        portions.append(portion)
        size -= portion
    return portions


def _row(length, portion, can_repeat):
    """The row with the least symbol for some elements of a run."""
    if portion == 1:
        return (length, 0)
    if can_repeat and portion <= _MOST_REPEATED:
        symbol = REPEAT_LAST
    elif portion <= _MOST_FEW_ZEROS:
        symbol = FEW_ZEROS
    else:
        symbol = MANY_ZEROS
    return (symbol, portion - row_parts(symbol)[1])


def _used_size(values, least):
    """The size of a list up to its last value that is not 0, but at least the given one."""
    size = len(values)
    while size > least and values[size - 1] == 0:
        size -= 1
    return size


def _number_lengths(rows):
    """The code lengths of the symbols of the rows."""
    counts = [0] * len(NUMBER_ORDER)
    for symbol, _ in rows:
        counts[symbol] += 1
    lengths = shortest(counts, _MOST_NUMBER)
    if sum(lengths) == 1:
        # The code must be complete, so a second symbol gets a code that is not used.
        lengths[lengths.index(0)] = 1
    return lengths
