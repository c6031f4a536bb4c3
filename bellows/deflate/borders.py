"""Dividing tokens into blocks of the fewest bits, and the table that proves it (points 506 to 508)."""

from bellows.errors import OutOfRange
from bellows.copies.expand import END_OF_BLOCK, symbol_counts, token_size
from bellows.deflate.blocks import coded_size, stored_size
from bellows.inflate.units import DYNAMIC, FIXED, STORED

_RESIDUES = 8

# A weight tells both the bits and the number of the blocks from a border on. A bit weighs more than
# all blocks of a division, so that a comparison of weights looks at the bits first.
_WEIGHT_OF_BIT = 0x1000000
_WEIGHT_OF_BLOCK = 1


def least_division(tokens, data, places, at):
    """The least division of the tokens from a position on: pairs of a place and a way."""
    return divide(tokens, data, places, at)[0]


def division_table(tokens, data, places, at):
    """The table of the least division."""
    return divide(tokens, data, places, at)[1]


def check_division(tokens, data, places, at, division, table):
    """Whether the table proves that the division has the least size."""
    stretches = Stretches(tokens, places)
    if not _has_form(table, stretches.last()):
        return False
    for first in range(stretches.last()):
        for residue in range(_RESIDUES):
            for size, _, last in stretches.blocks_from(first, residue):
                if table[first][residue] > size + table[last][(residue + size) % _RESIDUES]:
                    return False
    return _are_differences(division, places, at, stretches, table)


def divide(tokens, data, places, at):
    """The pair of the least division and its table."""
    _check_places(tokens, places)
    stretches = Stretches(tokens, places)
    weights = [[0] * _RESIDUES]
    choices = []
    for first in reversed(range(stretches.last())):
        options = [_best(stretches.blocks_from(first, residue), residue, first, weights)
                   for residue in range(_RESIDUES)]
        weights.insert(0, [weight for weight, _ in options])
        choices.insert(0, [choice for _, choice in options])
    table = [[weight // _WEIGHT_OF_BIT for weight in row] for row in weights]
    return (_chosen_blocks(choices, places, at), table)


class Stretches:
    """The tokens between any two borders; border 0 is their start, and the others are the places."""

    def __init__(self, tokens, places):
        self._counts = [([0] * 286, [0] * 30)]
        self._sizes = [0]
        self._coded = {}
        start = 0
        for place in places:
            part = tokens[start:place]
            self._counts.append(_sums(self._counts[-1], symbol_counts(part)))
            self._sizes.append(self._sizes[-1] + sum([token_size(token) for token in part]))
            start = place

    def last(self):
        """The number of the last border."""
        return len(self._sizes) - 1

    def blocks_from(self, first, residue):
        """The tuples `(size, way, last)` of all blocks from a border on, by ascending last border.

        Blocks between the same borders are listed by descending way. The position of the first
        bit has the given residue modulo 8.
        """
        found = []
        for last in range(first + 1, len(self._sizes)):
            fixed, dynamic = self._coded_sizes(first, last)
            stored = stored_size(self._sizes[last] - self._sizes[first], residue)
            found += [(dynamic, DYNAMIC, last), (fixed, FIXED, last), (stored, STORED, last)]
        return found

    def _coded_sizes(self, first, last):
        """The sizes of a fixed and of a dynamic block between two borders."""
        if (first, last) not in self._coded:
            counts = _differences(self._counts[last], self._counts[first])
            self._coded[first, last] = (coded_size(FIXED, counts), coded_size(DYNAMIC, counts))
        return self._coded[first, last]


def _sums(before, counts):
    """The counts of all tokens up to a border; that of the end of the blocks is of no use."""
    return ([first + second for first, second in zip(before[0], counts[0])],
            [first + second for first, second in zip(before[1], counts[1])])


def _differences(after, before):
    """The symbol counts of one block of the tokens between two borders."""
    letters = [first - second for first, second in zip(after[0], before[0])]
    distances = [first - second for first, second in zip(after[1], before[1])]
    letters[END_OF_BLOCK] = 1
    return (letters, distances)


def _check_places(tokens, places):
    for index, place in enumerate(places):
        before = places[index - 1] if index > 0 else 0
        if place <= before and tokens != []:
            raise OutOfRange(index)
    if places == [] or places[-1] != len(tokens):
        raise OutOfRange(len(places))


def _best(blocks, residue, first, weights):
    """The least weight at a border, and the choice `(size, way, last)` that leads to it."""
    best = None
    choice = None
    for block in blocks:
        size, _, last = block
        # The weights of the borders before this one are not there yet.
        rest = weights[last - first - 1][(residue + size) % _RESIDUES]
        weight = rest + size * _WEIGHT_OF_BIT + _WEIGHT_OF_BLOCK
        # Of equal weights, the farthest border and then the least way is kept, which comes later.
        if best is None or weight <= best:
            best = weight
            choice = block
    return (best, choice)


def _chosen_blocks(choices, places, at):
    division = []
    border = 0
    while border < len(choices):
        size, way, last = choices[border][at % _RESIDUES]
        division.append((places[last - 1], way))
        border = last
        at += size
    return division


def _has_form(table, last):
    if len(table) != last + 1 or table[last] != [0] * _RESIDUES:
        return False
    return all([len(row) == _RESIDUES for row in table])


def _are_differences(division, places, at, stretches, table):
    """Whether the size of each block of the division is what the table's elements differ by."""
    border = 0
    for place, way in division:
        if place not in places[border:]:
            return False
        last = places.index(place) + 1
        sizes = {found_way: size for size, found_way, found_last in stretches.blocks_from(border, at % _RESIDUES)
                 if found_last == last}
        if way not in sizes:
            return False
        after = at + sizes[way]
        if table[border][at % _RESIDUES] - table[last][after % _RESIDUES] != sizes[way]:
            return False
        border = last
        at = after
    return border == stretches.last()
