"""Step numbers: integers in digits of seven bits (point 105)."""

from bellows.errors import LooseNumber, OutOfRange, Truncated

# Nine digits of seven bits hold the 63 bits of the greatest step number.
_MOST_DIGITS = 9


def put_steps(number):
    """The bytes of a step number."""
    if not 0 <= number < 2 ** 63:
        raise OutOfRange(0)
    digits = []
    while number >= 128:
        digits.append(number % 128 + 128)
        number //= 128
    digits.append(number)
    return digits


def get_steps(data, at):
    """The pair of the step number that starts at an index and the index after it."""
    if not 0 <= at <= len(data):
        raise OutOfRange(0)
    after = _index_after(data, at)
    if after > at + 1 and data[after - 1] == 0:
        raise LooseNumber(at)
    number = 0
    for digit in reversed(data[at:after]):
        number = 128 * number + digit % 128
    return (number, after)


def _index_after(data, at):
    """The index after the first byte less than 128."""
    for place in range(at, at + _MOST_DIGITS):
        if place == len(data):
            raise Truncated(len(data))
        if data[place] < 128:
            return place + 1
    raise OutOfRange(at)
