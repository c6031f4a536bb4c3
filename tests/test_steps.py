"""Point 105 and bellows/base/steps.py."""

import unittest

from bellows.base.steps import get_steps, put_steps
from bellows.errors import LooseNumber, OutOfRange, Truncated
from checks import Case, numbers

GREATEST = 2 ** 63 - 1


class PutStepsTest(Case):
    def test_numbers_of_one_and_two_bytes(self):
        self.assertEqual(put_steps(0), [0])
        self.assertEqual(put_steps(1), [1])
        self.assertEqual(put_steps(127), [127])
        self.assertEqual(put_steps(128), [128, 1])
        self.assertEqual(put_steps(300), [172, 2])
        self.assertEqual(put_steps(16383), [255, 127])
        self.assertEqual(put_steps(16384), [128, 128, 1])

    def test_the_greatest_number(self):
        self.assertEqual(put_steps(GREATEST), [255] * 8 + [127])

    def test_as_few_bytes_as_possible(self):
        for digits in range(1, 9):
            self.assertEqual(len(put_steps(128 ** digits - 1)), digits)
            self.assertEqual(len(put_steps(128 ** digits)), digits + 1)

    def test_numbers_out_of_range(self):
        for number in (-1, -128, 2 ** 63, 2 ** 64, -2 ** 70):
            self.assert_error(OutOfRange, 0, put_steps, number)

    def test_each_list_is_new(self):
        self.assert_new_list(put_steps, 300)


class GetStepsTest(Case):
    def test_what_was_put_is_got_again(self):
        source = numbers(105)
        tried = [0, 1, 127, 128, 300, 16383, 16384, GREATEST - 1, GREATEST]
        tried += [source.randint(0, 2 ** source.randint(1, 63) - 1) for _ in range(200)]
        for number in tried:
            data = put_steps(number)
            self.assertEqual(get_steps(data, 0), (number, len(data)))

    def test_reading_at_any_index(self):
        data = [255, 128] + put_steps(5) + put_steps(300) + put_steps(GREATEST) + [128, 0, 9]
        self.assertEqual(get_steps(data, 2), (5, 3))
        self.assertEqual(get_steps(data, 3), (300, 5))
        self.assertEqual(get_steps(data, 4), (2, 5))
        self.assertEqual(get_steps(data, 5), (GREATEST, 14))
        self.assertEqual(get_steps(data, 15), (0, 16))
        self.assertEqual(get_steps(data, 16), (9, 17))

    def test_the_result_is_a_pair(self):
        self.assertIs(type(get_steps([7], 0)), tuple)

    def test_indexes_out_of_range(self):
        for data in ([], [0], [1, 2, 3], [128, 0]):
            for at in (-1, -2, len(data) + 1, len(data) + 100):
                self.assert_error(OutOfRange, 0, get_steps, data, at)

    def test_lists_that_end_too_early(self):
        self.assert_error(Truncated, 0, get_steps, [], 0)
        self.assert_error(Truncated, 3, get_steps, [1, 2, 3], 3)
        self.assert_error(Truncated, 1, get_steps, [128], 0)
        self.assert_error(Truncated, 4, get_steps, [5, 128, 255, 200], 1)
        for many in range(1, 9):
            self.assert_error(Truncated, many, get_steps, [128] * many, 0)
            self.assert_error(Truncated, many + 2, get_steps, [0, 0] + [255] * many, 2)

    def test_a_ninth_byte_that_is_too_great(self):
        self.assert_error(OutOfRange, 0, get_steps, [128] * 9, 0)
        self.assert_error(OutOfRange, 0, get_steps, [128] * 9 + [0], 0)
        self.assert_error(OutOfRange, 0, get_steps, [128] * 9 + [1], 0)
        self.assert_error(OutOfRange, 2, get_steps, [1, 2] + [255] * 12, 2)
        self.assert_error(OutOfRange, 3, get_steps, [255] * 12, 3)
        self.assert_error(Truncated, 12, get_steps, [255] * 12, 4)

    def test_more_bytes_than_needed(self):
        self.assert_error(LooseNumber, 0, get_steps, [128, 0], 0)
        self.assert_error(LooseNumber, 1, get_steps, [9, 255, 0], 1)
        self.assert_error(LooseNumber, 0, get_steps, [128] * 8 + [0], 0)
        self.assert_error(LooseNumber, 2, get_steps, [128, 128, 129, 130, 0, 5], 2)

    def test_the_order_of_the_errors(self):
        # The index before the bytes, an early end before the ninth byte, that one before zeros.
        self.assert_error(OutOfRange, 0, get_steps, [128], 2)
        self.assert_error(OutOfRange, 0, get_steps, [128] * 9 + [0], -1)
        self.assert_error(Truncated, 9, get_steps, [128] * 9, 1)
        self.assert_error(OutOfRange, 1, get_steps, [128] * 10 + [0], 1)
        self.assert_error(LooseNumber, 2, get_steps, [128] * 10 + [0], 2)

    def test_a_single_zero_is_not_loose(self):
        self.assertEqual(get_steps([0, 0], 0), (0, 1))
        self.assertEqual(get_steps([128, 0], 1), (0, 2))

    def test_the_list_is_not_modified(self):
        data = [172, 2, 128]
        get_steps(data, 0)
        self.assert_error(Truncated, 3, get_steps, data, 2)
        self.assertEqual(data, [172, 2, 128])


if __name__ == "__main__":
    unittest.main()
