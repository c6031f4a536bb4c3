"""The shortest parse and its certificate, the costs ahead (points 306 to 308)."""

from bellows.errors import NoParse, OutOfRange, TooFar
from bellows.copies.cheapest import CheapestTokens
from bellows.copies.expand import expand, token_cost, token_size
from bellows.copies.symbols import MOST_DISTANCE

# A weight tells both the cost and the number of the tokens from an index on. A bit weighs more than
# all tokens of a parse, so that a comparison of weights looks at the cost first.
_WEIGHT_OF_BIT = 0x1000000
_WEIGHT_OF_TOKEN = 1


def parse(data, dictionary, letters, distances, window=32768):
    """The pair of the shortest parse and its costs ahead."""
    if not 1 <= window <= MOST_DISTANCE:
        raise OutOfRange(0)
    cheapest = CheapestTokens(data, dictionary, letters, distances, window)
    weights = [None] * len(data) + [0]
    choices = [None] * len(data)
    for index in reversed(range(len(data))):
        weights[index], choices[index] = _best(index, cheapest.options(index), weights)
    if weights[0] is None:
        raise NoParse(_farthest_reached(len(data), cheapest))
    return (_chosen_tokens(data, choices), [_bits_in(number) for number in weights])


def check_parse(data, dictionary, letters, distances, window, tokens, ahead):
    """Whether the costs ahead prove that the tokens have the least cost."""
    if len(ahead) != len(data) + 1 or ahead[-1] != 0:
        return False
    cheapest = CheapestTokens(data, dictionary, letters, distances, window)
    for index in range(len(data)):
        if not _is_least(index, cheapest.options(index), ahead):
            return False
    if not _stand_for(tokens, data, dictionary, window):
        return False
    return _are_differences(tokens, letters, distances, ahead)


def _best(index, options, weights):
    """The least weight at an index, and the choice `(size, distance)` that leads to it."""
    best = None
    choice = None
    for size, cost, distance in options:
        rest = weights[index + size]
        if rest is not None:
            weight = rest + cost * _WEIGHT_OF_BIT + _WEIGHT_OF_TOKEN
            # The sizes ascend: of equal weights, the greatest size is kept.
            if best is None or weight <= best:
                best = weight
                choice = (size, distance)
    return (best, choice)


def _bits_in(weight):
    if weight is None:
        return None
    return weight // _WEIGHT_OF_BIT


def _chosen_tokens(data, choices):
    tokens = []
    index = 0
    while index < len(data):
        size, distance = choices[index]
        if distance == 0:
            tokens.append((data[index],))
        else:
            tokens.append((size, distance))
        index += size
    return tokens


def _farthest_reached(size, cheapest):
    """The greatest index up to which there is a list of tokens."""
    farthest = 0
    reached = [True] + [False] * size
    for index in range(size):
        if reached[index]:
            for option in cheapest.options(index):
                reached[index + option[0]] = True
                farthest = max(farthest, index + option[0])
    return farthest


def _is_least(index, options, ahead):
    """Whether no token at an index leads to a lesser cost than the one told for the index."""
    for size, cost, _ in options:
        rest = ahead[index + size]
        if rest is not None and (ahead[index] is None or ahead[index] > cost + rest):
            return False
    return True


def _stand_for(tokens, data, dictionary, window):
    """Whether tokens expand to the data and stay within the window."""
    for token in tokens:
        if len(token) == 2 and token[1] > window:
            return False
    try:
        return expand(tokens, dictionary) == data
    except TooFar:
        return False


def _are_differences(tokens, letters, distances, ahead):
    """Whether the cost of each token is what the costs ahead differ by."""
    index = 0
    for token in tokens:
        cost = token_cost(token, letters, distances)
        after = index + token_size(token)
        if cost is None or ahead[index] is None or ahead[after] is None:
            return False
        if cost != ahead[index] - ahead[after]:
            return False
        index = after
    return True
