"""Expanding tokens, counting their symbols, and their costs (points 301 to 305)."""

from bellows.errors import TooFar
from bellows.copies.symbols import DISTANCE_COUNT, LETTER_COUNT, distance_parts, length_parts

END_OF_BLOCK = 256


def expand(tokens, dictionary=()):
    """The bytes that the tokens stand for behind a dictionary."""
    history = list(dictionary)
    floor = len(history)
    for index, token in enumerate(tokens):
        if len(token) == 1:
            history.append(token[0])
        else:
            length, distance = token
            if distance > len(history):
                raise TooFar(index)
            # One at a time: a copy may read what it has appended itself.
            for _ in range(length):
                history.append(history[-distance])
    return history[floor:]


def symbol_counts(tokens):
    """How often each symbol of letters, and of distances, occurs in a block of these tokens."""
    letters = [0] * LETTER_COUNT
    distances = [0] * DISTANCE_COUNT
    letters[END_OF_BLOCK] = 1
    for token in tokens:
        if len(token) == 1:
            letters[token[0]] += 1
        else:
            letters[length_parts(token[0])[0]] += 1
            distances[distance_parts(token[1])[0]] += 1
    return (letters, distances)


def token_cost(token, letters, distances):
    """The number of bits of a token, None if one of its symbols has no code."""
    if len(token) == 1:
        return literal_cost(token[0], letters)
    of_length = length_cost(token[0], letters)
    of_distance = distance_cost(token[1], distances)
    if of_length is None or of_distance is None:
        return None
    return of_length + of_distance


def token_size(token):
    """The number of bytes that a token stands for."""
    if len(token) == 1:
        return 1
    return token[0]


def literal_cost(byte, letters):
    """The number of bits of a literal, or None."""
    return _cost_of_parts((byte, 0, 0), letters)


def length_cost(length, letters):
    """The number of bits of the length of a copy, or None."""
    return _cost_of_parts(length_parts(length), letters)


def distance_cost(distance, distances):
    """The number of bits of the distance of a copy, or None."""
    return _cost_of_parts(distance_parts(distance), distances)


def _cost_of_parts(parts, lengths):
    symbol, extra_bits, _ = parts
    if lengths[symbol] == 0:
        return None
    return lengths[symbol] + extra_bits
