"""Reading a whole stream (point 406)."""

from bellows.errors import OutOfRange
from bellows.copies.symbols import MOST_DISTANCE
from bellows.inflate.arriving import ArrivingBits
from bellows.inflate.decoding import Decoder

MOST_LIMIT = 65536


def inflate(stream, start=0, dictionary=(), limit=4096, window=32768):
    """The pair of the output of a stream that starts at a position, and the end of the stream."""
    if not 0 <= start <= 8 * len(stream):
        raise OutOfRange(0)
    if not 0 <= limit <= MOST_LIMIT:
        raise OutOfRange(1)
    if not 1 <= window <= MOST_DISTANCE:
        raise OutOfRange(2)
    return inflate_unchecked(stream, start, dictionary, limit, window)


def inflate_unchecked(stream, start, dictionary, limit, window):
    """The same for numbers that may be out of range."""
    bits = ArrivingBits(stream)
    decoder = Decoder(start, dictionary, 0, limit, window)
    output = []
    while not decoder.has_ended():
        unit = decoder.read_unit(bits)
        output += decoder.execute(unit, bits)
    return (output, decoder.position())
