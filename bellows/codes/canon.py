"""Code lengths and the canonical code (points 201 and 202)."""

from bellows.errors import TooManyCodes

MOST_BITS = 15
FULL_WEIGHT = 32768


def weight(lengths):
    """The weight of code lengths."""
    return sum([_weight_of(length) for length in lengths])


def is_complete(lengths):
    """Whether every sequence of 15 bits begins with a code."""
    return weight(lengths) == FULL_WEIGHT


def is_oversubscribed(lengths):
    """Whether no code has these lengths."""
    return weight(lengths) > FULL_WEIGHT


def codes(lengths):
    """The codes of the symbols, 0 where a symbol has none."""
    _check_weight(lengths)
    coming = _first_codes(lengths)
    found = []
    for length in lengths:
        if length == 0:
            found.append(0)
        else:
            found.append(coming[length])
            coming[length] += 1
    return found


def _weight_of(length):
    if length == 0:
        return 0
    return FULL_WEIGHT >> length


def _check_weight(lengths):
    total = 0
    for symbol, length in enumerate(lengths):
        total += _weight_of(length)
        if total > FULL_WEIGHT:
            raise TooManyCodes(symbol)


def _first_codes(lengths):
    """The first code of each length, at the index of this length."""
    firsts = [0, 0]
    for length in range(1, MOST_BITS):
        firsts.append(2 * (firsts[length] + lengths.count(length)))
    return firsts
