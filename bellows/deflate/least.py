"""Writing data as a stream with few bits (points 509 and 510)."""

from bellows.errors import OutOfRange
from bellows.base.bits import BitWriter
from bellows.codes.canon import MOST_BITS
from bellows.codes.shortest import shortest
from bellows.copies.expand import symbol_counts, token_size
from bellows.copies.parse import parse
from bellows.copies.symbols import DISTANCE_COUNT, LETTER_COUNT, MOST_DISTANCE
from bellows.deflate.blocks import block_size, write_block
from bellows.deflate.borders import divide
from bellows.inflate.units import DYNAMIC, FIXED, fixed_lengths

_MOST_TURNS = 8
_MOST_GRAIN = 4096


def deflate_least(data, dictionary=(), *, rounds=3, passes=1, grain=1024, window=32768):
    """The stream of the data."""
    tokens, _, division = plan_least(
        data, dictionary, rounds=rounds, passes=passes, grain=grain, window=window)
    writer = BitWriter()
    start = 0
    first = 0
    for place, way in division:
        part = tokens[first:place]
        end = start + sum([token_size(token) for token in part])
        write_block(writer, way, part, data[start:end], int(place == len(tokens)))
        start = end
        first = place
    return writer.data()


def plan_least(data, dictionary=(), *, rounds=3, passes=1, grain=1024, window=32768):
    """The tuple of the tokens, the places and the division of this stream."""
    _check_options(rounds, passes, grain, window)
    pieces = Pieces(data, dictionary, grain, window)
    lists = [_best_list(pieces, index, rounds) for index in range(pieces.count())]
    best = Plan(lists, data)
    for _ in range(passes):
        plan = Plan(_parsed_for_blocks(pieces, best), data)
        if plan.bits >= best.bits:
            break
        best = plan
    return (best.tokens, best.places, best.division)


class Pieces:
    """The data in pieces, each of which can be parsed behind everything before it."""

    def __init__(self, data, dictionary, grain, window):
        self._data = data
        self._dictionary = list(dictionary)
        self._starts = list(range(0, len(data), grain))
        self._grain = grain
        self._window = window

    def count(self):
        """The number of pieces."""
        return len(self._starts)

    def piece(self, index):
        """The data of a piece."""
        start = self._starts[index]
        return self._data[start:start + self._grain]

    def parsed(self, index, lengths):
        """The tokens of the shortest parse of a piece."""
        letters, distances = lengths
        before = self._dictionary + self._data[:self._starts[index]]
        return parse(self.piece(index), before, letters, distances, self._window)[0]


class Plan:
    """The tokens of all pieces, and their least division."""

    def __init__(self, lists, data):
        self.tokens = []
        self.places = []
        for tokens in lists:
            self.tokens += tokens
            self.places.append(len(self.tokens))
        if lists == []:
            self.places.append(0)
        self.division, table = divide(self.tokens, data, self.places, 0)
        self.bits = table[0][0]

    def block_of(self, index):
        """The tokens of the block that contains a piece."""
        first = 0
        for place, _ in self.division:
            if place >= self.places[index]:
                return self.tokens[first:place]
            first = place
        return []


def _check_options(rounds, passes, grain, window):
    if not 0 <= rounds <= _MOST_TURNS:
        raise OutOfRange(0)
    if not 0 <= passes <= _MOST_TURNS:
        raise OutOfRange(1)
    if not 1 <= grain <= _MOST_GRAIN:
        raise OutOfRange(2)
    if not 1 <= window <= MOST_DISTANCE:
        raise OutOfRange(3)


def _best_list(pieces, index, rounds):
    """The tokens of a piece that take the fewest bits as one block, of those of all rounds."""
    letters, distances = fixed_lengths()
    tokens = pieces.parsed(index, (letters[:LETTER_COUNT], distances[:DISTANCE_COUNT]))
    best = tokens
    least = _coded_size(tokens)
    for _ in range(rounds):
        tokens = pieces.parsed(index, _lengths_for(tokens))
        size = _coded_size(tokens)
        if size < least:
            best = tokens
            least = size
    return best


def _coded_size(tokens):
    """The lesser one of the sizes of a fixed and a dynamic block."""
    return min(block_size(FIXED, tokens, [], 0), block_size(DYNAMIC, tokens, [], 0))


def _lengths_for(tokens):
    """Code lengths for all symbols, the shorter the more often the tokens have them."""
    letter_counts, distance_counts = symbol_counts(tokens)
    return (shortest([count + 1 for count in letter_counts], MOST_BITS),
            shortest([count + 1 for count in distance_counts], MOST_BITS))


def _parsed_for_blocks(pieces, plan):
    """The tokens of each piece, parsed for the block that contains it."""
    return [pieces.parsed(index, _lengths_for(plan.block_of(index))) for index in range(pieces.count())]
