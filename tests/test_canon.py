"""Points 201 and 202, and bellows/codes/canon.py."""

import unittest

from bellows.codes.canon import codes, is_complete, is_oversubscribed, weight
from bellows.errors import TooManyCodes
from checks import Case, complete_lengths, numbers

FIXED_LETTERS = [8] * 144 + [9] * 112 + [7] * 24 + [8] * 8


def defined_codes(lengths):
    """The codes as point 202 words them."""
    first = {1: 0}
    for length in range(1, 16):
        first[length + 1] = 2 * (first[length] + lengths.count(length))
    found = [0] * len(lengths)
    for length in range(1, 16):
        symbols = [symbol for symbol, other in enumerate(lengths) if other == length]
        for rank, symbol in enumerate(symbols):
            found[symbol] = first[length] + rank
    return found


def lists_of_all_sorts():
    source = numbers(201)
    found = [[], [0], [0] * 320, [1], [15], [0, 1, 0], [1, 1], [1, 2], [1, 2, 3, 3], [15] * 320,
             FIXED_LETTERS, [5] * 32, [2, 1, 0, 3, 3]]
    for _ in range(60):
        lengths = complete_lengths(source, source.randint(2, 320))
        found.append(lengths)
        found.append([length if source.random() < 0.9 else 0 for length in lengths])
    return found


class WeightTest(Case):
    def test_the_weight_of_each_length(self):
        self.assertEqual(weight([0]), 0)
        for length in range(1, 16):
            self.assertEqual(weight([length]), 2 ** (15 - length))

    def test_the_weight_is_a_sum(self):
        self.assertEqual(weight([]), 0)
        self.assertEqual(weight([1, 0, 2, 15]), 16384 + 8192 + 1)
        self.assertEqual(weight([1] * 320), 320 * 16384)
        self.assertEqual(weight([15] * 320), 320)
        self.assertEqual(weight(list(range(16))), 32767)

    def test_complete_lists(self):
        for lengths in ([1, 1], [1, 2, 3, 3], [5] * 32, FIXED_LETTERS, [0, 1, 0, 1, 0],
                        list(range(1, 16)) + [15]):
            self.assertEqual(weight(lengths), 32768)
            self.assertIs(is_complete(lengths), True)
            self.assertIs(is_oversubscribed(lengths), False)

    def test_incomplete_lists(self):
        for lengths in ([], [0], [1], [15], [1, 2], list(range(16)), [15] * 320, [5] * 31, [0] * 320):
            self.assertIs(is_complete(lengths), False)
            self.assertIs(is_oversubscribed(lengths), False)

    def test_oversubscribed_lists(self):
        for lengths in ([1, 1, 1], [1, 1, 15], [5] * 33, list(range(1, 16)) + [15, 15], [8] * 257,
                        [1] * 320):
            self.assertIs(is_complete(lengths), False)
            self.assertIs(is_oversubscribed(lengths), True)

    def test_a_list_of_320_lengths(self):
        lengths = complete_lengths(numbers(320), 320)
        self.assertIs(is_complete(lengths), True)
        self.assertIs(is_oversubscribed(lengths), False)
        lengths[lengths.index(max(lengths))] -= 1
        self.assertIs(is_oversubscribed(lengths), True)


class CodesTest(Case):
    def test_the_example_of_the_interface(self):
        self.assertEqual(codes([2, 1, 0, 3, 3]), [2, 0, 0, 6, 7])

    def test_the_empty_list_and_lists_without_codes(self):
        self.assertEqual(codes([]), [])
        self.assertEqual(codes([0, 0, 0]), [0, 0, 0])

    def test_single_codes(self):
        for length in range(1, 16):
            self.assertEqual(codes([0, length]), [0, 0])

    def test_the_fixed_code(self):
        found = codes(FIXED_LETTERS)
        self.assertEqual(found[:144], list(range(48, 192)))
        self.assertEqual(found[144:256], list(range(400, 512)))
        self.assertEqual(found[256:280], list(range(24)))
        self.assertEqual(found[280:], list(range(192, 200)))
        self.assertEqual(codes([5] * 32), list(range(32)))

    def test_lists_of_all_sorts_against_the_definition(self):
        for lengths in lists_of_all_sorts():
            self.assertEqual(codes(lengths), defined_codes(lengths))

    def test_no_code_is_a_prefix_of_another_one(self):
        for lengths in lists_of_all_sorts():
            words = [format(code, f"0{length}b")
                     for code, length in zip(codes(lengths), lengths) if length]
            self.assertEqual([len(word) for word in words], [n for n in lengths if n])
            words.sort()
            for first, second in zip(words, words[1:]):
                self.assertFalse(second.startswith(first))

    def test_the_codes_of_a_complete_list_begin_everything(self):
        for lengths in ([1, 1], [2, 1, 3, 3], list(range(1, 16)) + [15], FIXED_LETTERS):
            starts = {}
            for code, length in zip(codes(lengths), lengths):
                if length:
                    starts[(length, code)] = True
            for bits in range(0, 32768, 7):
                fitting = [n for n in range(1, 16) if (n, bits >> (15 - n)) in starts]
                self.assertEqual(len(fitting), 1)

    def test_oversubscribed_lists(self):
        self.assert_error(TooManyCodes, 2, codes, [1, 1, 1])
        self.assert_error(TooManyCodes, 2, codes, [1, 1, 15])
        self.assert_error(TooManyCodes, 4, codes, [0, 1, 1, 0, 15, 1, 1])
        self.assert_error(TooManyCodes, 32, codes, [5] * 320)
        self.assert_error(TooManyCodes, 319, codes, [0] * 317 + [1, 1, 15])
        self.assert_error(TooManyCodes, 2, codes, [2, 1, 1])
        self.assert_error(TooManyCodes, 16, codes, list(range(1, 16)) + [15, 15])

    def test_symbols_without_codes_are_not_counted(self):
        self.assert_error(TooManyCodes, 3, codes, [1, 1, 0, 1])
        self.assertEqual(codes([1, 1, 0, 0]), [0, 1, 0, 0])

    def test_arguments_are_kept_and_results_are_new(self):
        lengths = [2, 1, 0, 3, 3]
        self.assert_new_list(codes, lengths)
        weight(lengths)
        is_complete(lengths)
        is_oversubscribed(lengths)
        self.assertEqual(lengths, [2, 1, 0, 3, 3])
        zeros = [0, 0]
        codes(zeros).append(5)
        self.assertEqual(zeros, [0, 0])


if __name__ == "__main__":
    unittest.main()
