"""Guesses at the items of a stream, and items as numbers (points 711 and 712)."""

from bellows.copies.matches import Matches, distances_from_to, least_distance
from bellows.copies.symbols import LAST_LETTER, MOST_DISTANCE, MOST_LENGTH
from bellows.inflate.grammar import items_of
from bellows.inflate.units import token_of

# What a recipe has in the place of a length, for a literal and for a copy of the greatest length
# that is stored with the symbol before the one of this length.
TOLD_LITERAL = 0
TOLD_OTHER_LONGEST = 1

_OTHER_LONGEST_PARTS = (284, 31)


def all_guesses(data):
    """The guesses at all indexes of data, told like items."""
    matches = Matches(data, distances_from_to(1, MOST_DISTANCE))
    found = []
    for _ in range(len(data)):
        found.append(_told_guess(matches.before()))
    found.reverse()
    return found


def told_item(item):
    """The numbers that tell an item in a recipe: 0, or a length and a distance."""
    if len(item) == 1:
        return [TOLD_LITERAL]
    length, distance = token_of(item)
    if length == MOST_LENGTH and item[0] != LAST_LETTER:
        length = TOLD_OTHER_LONGEST
    return [length, distance]


def item_of_told(told, byte):
    """The item that such numbers tell, where a literal is the given byte."""
    if told == [TOLD_LITERAL]:
        return (byte,)
    length, distance = told
    if length != TOLD_OTHER_LONGEST:
        return items_of([(length, distance)])[0]
    _, _, symbol, extra = items_of([(MOST_LENGTH, distance)])[0]
    return _OTHER_LONGEST_PARTS + (symbol, extra)


def _told_guess(matches):
    if matches == []:
        return [TOLD_LITERAL]
    longest, members = matches[-1]
    return [longest, least_distance(members)]
