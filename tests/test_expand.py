"""Points 301, 302, 303 and 305, and bellows/copies/expand.py."""

import unittest

from bellows.copies.expand import expand, symbol_counts, token_cost
from bellows.copies.symbols import distance_parts, length_parts
from bellows.errors import TooFar
from checks import Case, numbers, some_bytes

FIXED_LETTERS = [8] * 144 + [9] * 112 + [7] * 24 + [8] * 8


def some_tokens(source, many, before):
    """Tokens that expand behind a dictionary of `before` bytes, and what they expand to then."""
    history = some_bytes(source, before)
    dictionary = list(history)
    tokens = []
    for _ in range(many):
        if history and source.random() < 0.6:
            length = source.choice([3, 4, 10, 257, 258, source.randint(3, 258)])
            distance = source.choice([1, len(history), source.randint(1, len(history))])
            tokens.append((length, distance))
            for _ in range(length):
                history.append(history[len(history) - distance])
        else:
            tokens.append((source.randint(0, 255),))
            history.append(tokens[-1][0])
    return tokens, dictionary, history[before:]


class ExpandTest(Case):
    def test_the_example_of_the_interface(self):
        self.assertEqual(expand([(7,), (8,), (5, 2)]), [7, 8, 7, 8, 7, 8, 7])

    def test_no_tokens(self):
        self.assertEqual(expand([]), [])
        self.assertEqual(expand([], [1, 2, 3]), [])

    def test_literals(self):
        self.assertEqual(expand([(byte,) for byte in range(256)]), list(range(256)))

    def test_copies_that_overlap_themselves(self):
        self.assertEqual(expand([(9,), (258, 1)]), [9] * 259)
        self.assertEqual(expand([(1,), (2,), (3,), (7, 3)]), [1, 2, 3, 1, 2, 3, 1, 2, 3, 1])
        self.assertEqual(expand([(3, 3), (3, 1)], [1, 2, 3]), [1, 2, 3, 3, 3, 3])

    def test_copies_into_the_dictionary(self):
        dictionary = [1, 2, 3, 4, 5]
        self.assertEqual(expand([(3, 5)], dictionary), [1, 2, 3])
        self.assertEqual(expand([(3, 3)], dictionary), [3, 4, 5])
        self.assertEqual(expand([(4, 2)], dictionary), [4, 5, 4, 5])
        self.assertEqual(expand([(6,), (3, 6)], dictionary), [6, 1, 2, 3])
        self.assertEqual(expand([(6,), (5, 2)], dictionary), [6, 5, 6, 5, 6, 5])

    def test_a_dictionary_may_be_a_tuple(self):
        self.assertEqual(expand([(3, 2)], (1, 2)), [1, 2, 1])
        self.assertEqual(expand([(3, 1)], dictionary=[4]), [4, 4, 4])

    def test_the_first_byte_and_one_byte_too_far(self):
        for size in (0, 1, 3, 300, 4096):
            dictionary = some_bytes(numbers(size), size)
            if size:
                self.assertEqual(expand([(3, size)], dictionary)[0], dictionary[0])
            self.assert_error(TooFar, 0, expand, [(3, size + 1)], dictionary)
            self.assert_error(TooFar, 2, expand, [(1,), (2,), (3, size + 3)], dictionary)
            self.assert_error(TooFar, 2, expand, [(1,), (4, 1), (3, size + 6)], dictionary)
            self.assertEqual(len(expand([(1,), (4, 1), (3, size + 5)], dictionary)), 8)

    def test_the_first_token_that_reaches_too_far_decides(self):
        self.assert_error(TooFar, 1, expand, [(1,), (3, 2), (3, 9), (3, 32768)])
        self.assert_error(TooFar, 0, expand, [(3, 1), (3, 1)])
        self.assert_error(TooFar, 0, expand, [(258, 32768)], [0] * 32767)
        self.assertEqual(expand([(258, 32768)], [5] + [0] * 32767), [5] + [0] * 257)

    def test_many_tokens_against_a_plain_history(self):
        source = numbers(302)
        for before in (0, 1, 40, 4096):
            tokens, dictionary, data = some_tokens(source, 30, before)
            self.assertEqual(expand(tokens, dictionary), data)

    def test_results_are_new_and_arguments_are_kept(self):
        tokens, dictionary = [(1,), (3, 2)], [9, 8]
        self.assert_new_list(expand, tokens, dictionary)
        self.assert_new_list(expand, [], dictionary)
        self.assert_error(TooFar, 1, expand, [(1,), (3, 4)], dictionary)
        self.assertEqual((tokens, dictionary), ([(1,), (3, 2)], [9, 8]))


class SymbolCountsTest(Case):
    def test_no_tokens(self):
        letters, distances = symbol_counts([])
        self.assertEqual(letters, [0] * 256 + [1] + [0] * 29)
        self.assertEqual(distances, [0] * 30)

    def test_literals_and_copies(self):
        letters, distances = symbol_counts([(7,), (8,), (7,), (5, 2), (258, 32768), (20, 100)])
        self.assertEqual((len(letters), len(distances)), (286, 30))
        found = {symbol: count for symbol, count in enumerate(letters) if count}
        self.assertEqual(found, {7: 2, 8: 1, 256: 1, 259: 1, 269: 1, 285: 1})
        found = {symbol: count for symbol, count in enumerate(distances) if count}
        self.assertEqual(found, {1: 1, 13: 1, 29: 1})

    def test_every_length_and_literal(self):
        tokens = [(length, 1) for length in range(3, 259)] + [(byte,) for byte in range(256)]
        letters, distances = symbol_counts(tokens)
        expected = [1] * 257 + [0] * 29
        for length in range(3, 259):
            expected[length_parts(length)[0]] += 1
        self.assertEqual(letters, expected)
        self.assertEqual(distances, [256] + [0] * 29)

    def test_every_distance_symbol(self):
        tokens = [(3, distance) for distance in range(1, 32769, 3)]
        letters, distances = symbol_counts(tokens)
        expected = [0] * 30
        for _, distance in tokens:
            expected[distance_parts(distance)[0]] += 1
        self.assertEqual(distances, expected)
        self.assertEqual(letters[257], len(tokens))

    def test_the_result_is_a_new_pair_of_lists(self):
        tokens = [(7,), (5, 2)]
        first, second = symbol_counts(tokens), symbol_counts(tokens)
        self.assertIs(type(first), tuple)
        self.assertEqual([type(part) for part in first], [list, list])
        first[0][7] += 1
        first[1].clear()
        self.assertEqual(symbol_counts(tokens), second)
        self.assertEqual(tokens, [(7,), (5, 2)])


class TokenCostTest(Case):
    def test_the_fixed_code(self):
        for byte in range(256):
            self.assertEqual(token_cost((byte,), FIXED_LETTERS, [5] * 32), 8 if byte < 144 else 9)
        self.assertEqual(token_cost((3, 1), FIXED_LETTERS, [5] * 32), 12)
        self.assertEqual(token_cost((20, 100), FIXED_LETTERS, [5] * 32), 7 + 2 + 5 + 5)
        self.assertEqual(token_cost((257, 32768), FIXED_LETTERS, [5] * 32), 8 + 5 + 5 + 13)
        self.assertEqual(token_cost((258, 4), FIXED_LETTERS, [5] * 32), 8 + 5)

    def test_costs_of_all_symbols(self):
        source = numbers(305)
        letters = [source.randint(1, 15) for _ in range(286)]
        distances = [source.randint(1, 15) for _ in range(30)]
        for length in range(3, 259):
            distance = source.randint(1, 32768)
            symbol, bits, _ = length_parts(length)
            far, far_bits, _ = distance_parts(distance)
            expected = letters[symbol] + bits + distances[far] + far_bits
            self.assertEqual(token_cost((length, distance), letters, distances), expected)

    def test_symbols_without_a_code(self):
        letters, distances = [4] * 286, [6] * 30
        letters[9] = letters[285] = letters[269] = 0
        distances[13] = 0
        self.assertIsNone(token_cost((9,), letters, distances))
        self.assertEqual(token_cost((8,), letters, distances), 4)
        self.assertIsNone(token_cost((258, 1), letters, distances))
        self.assertEqual(token_cost((257, 1), letters, distances), 15)
        self.assertIsNone(token_cost((20, 1), letters, distances))
        self.assertEqual(token_cost((23, 1), letters, distances), 12)
        self.assertIsNone(token_cost((3, 100), letters, distances))
        self.assertEqual(token_cost((3, 96), letters, distances), 15)
        self.assertIsNone(token_cost((20, 100), letters, distances))

    def test_no_codes_at_all(self):
        for token in ((0,), (255,), (3, 1), (258, 32768)):
            self.assertIsNone(token_cost(token, [0] * 286, [0] * 30))
        self.assertIsNone(token_cost((3, 1), [1] * 286, [0] * 30))
        self.assertIsNone(token_cost((3, 1), [0] * 286, [1] * 30))
        self.assertEqual(token_cost((3, 1), [1] * 286, [1] * 30), 2)

    def test_the_lists_are_kept(self):
        letters, distances = [4] * 286, [6] * 30
        token_cost((20, 100), letters, distances)
        self.assertEqual((letters, distances), ([4] * 286, [6] * 30))


if __name__ == "__main__":
    unittest.main()
