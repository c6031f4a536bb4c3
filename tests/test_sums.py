"""Points 102, 103 and 104, and bellows/base/sums.py."""

import sys
import unittest

from bellows.base.sums import (
    adler32, adler32_front, adler32_joined, crc32, crc32_front, crc32_joined,
)
from bellows.errors import OutOfRange
from checks import Case, numbers, some_bytes

DIGITS = list(range(49, 58))
ALL = 0xFFFFFFFF
VALID_ADLERS = [0, 1, 65520, 65536, 65520 * 65536, 65520 * 65536 + 65520]
WRONG_ADLERS = [-1, -65536, 65521, 65535, 65521 * 65536, 65520 * 65536 + 65521, ALL, 2 ** 32,
                2 ** 32 + 1, 2 ** 80]
WRONG_CRCS = [-1, 2 ** 32, 2 ** 80, -2 ** 32]
LARGE_SIZES = [2 ** 20, 2 ** 32 - 1, 2 ** 32, 2 ** 39 + 12345, 2 ** 40 - 1, 2 ** 40]


def defined_adler(data, start=1):
    a, b = start % 65536, start // 65536
    for x in data:
        a = (a + x) % 65521
        b = (b + a) % 65521
    return 65536 * b + a


def defined_crc(data, start=0):
    state = start ^ ALL
    for byte in data:
        for k in range(8):
            t = (byte >> k & 1) ^ (state & 1)
            state >>= 1
            if t:
                state ^= 0xEDB88320
    return state ^ ALL


def applied(columns, state):
    """A linear map over the bits of a CRC register, given by what it makes of each bit."""
    result = 0
    for k, column in enumerate(columns):
        if state >> k & 1:
            result ^= column
    return result


def after_zeros(state, count):
    """The register after `count` bytes that are 0, by squaring the map of one byte."""
    columns = []
    for k in range(32):
        bit = 1 << k
        for _ in range(8):
            bit = (bit >> 1) ^ (0xEDB88320 if bit & 1 else 0)
        columns.append(bit)
    while count:
        if count & 1:
            state = applied(columns, state)
        columns = [applied(columns, column) for column in columns]
        count >>= 1
    return state


def crc_behind_zeros(crc, count):
    return after_zeros(crc ^ ALL, count) ^ ALL


def adler_behind_zeros(adler, count):
    low, high = adler % 65536, adler // 65536
    return 65536 * ((high + count * low) % 65521) + low


def lines_run(function, *values):
    seen = []

    def trace(frame, event, value):
        if event == "line":
            seen.append(1)
        return trace

    before = sys.gettrace()
    sys.settrace(trace)
    try:
        function(*values)
    finally:
        sys.settrace(before)
    return len(seen)


class SumsOfListsTest(Case):
    def test_the_sums_of_the_document(self):
        self.assertEqual(adler32(DIGITS), 0x091E01DE)
        self.assertEqual(crc32(DIGITS), 0xCBF43926)

    def test_the_default_start(self):
        self.assertEqual(adler32([]), 1)
        self.assertEqual(crc32([]), 0)
        self.assertEqual(adler32(DIGITS), adler32(DIGITS, 1))
        self.assertEqual(crc32(DIGITS), crc32(DIGITS, 0))
        self.assertEqual(adler32(DIGITS, start=1), 0x091E01DE)
        self.assertEqual(crc32(DIGITS, start=0), 0xCBF43926)

    def test_an_empty_list_gives_the_start(self):
        for start in VALID_ADLERS:
            self.assertEqual(adler32([], start), start)
        for start in (0, 1, 0x80000000, ALL):
            self.assertEqual(crc32([], start), start)

    def test_every_single_byte(self):
        for byte in range(256):
            self.assertEqual(adler32([byte]), defined_adler([byte]))
            self.assertEqual(crc32([byte]), defined_crc([byte]))

    def test_lists_of_many_sizes_and_starts(self):
        source = numbers(102)
        for size in (1, 2, 3, 8, 31, 256, 1000, 4096):
            data = some_bytes(source, size)
            adler = 65536 * source.randint(0, 65520) + source.randint(0, 65520)
            crc = source.randint(0, ALL)
            self.assertEqual(adler32(data), defined_adler(data))
            self.assertEqual(adler32(data, adler), defined_adler(data, adler))
            self.assertEqual(crc32(data), defined_crc(data))
            self.assertEqual(crc32(data, crc), defined_crc(data, crc))

    def test_the_greatest_bytes_at_the_greatest_start(self):
        data = [255] * 4096
        self.assertEqual(adler32(data, 65520 * 65537), defined_adler(data, 65520 * 65537))
        self.assertEqual(crc32(data, ALL), defined_crc(data, ALL))

    def test_the_halves_of_an_adler_sum_stay_below_the_modulus(self):
        self.assertEqual(adler32([1], 65520), 0)
        self.assertEqual(adler32([0], 65520 * 65536 + 1), 1)
        self.assertEqual(adler32([0, 0], 65520), 65519 * 65536 + 65520)

    def test_a_list_in_two_parts_gives_the_sum_of_the_whole(self):
        data = some_bytes(numbers(103), 40)
        for cut in range(41):
            self.assertEqual(adler32(data[cut:], adler32(data[:cut])), adler32(data))
            self.assertEqual(crc32(data[cut:], crc32(data[:cut])), crc32(data))

    def test_starts_at_their_bounds(self):
        for start in VALID_ADLERS:
            self.assertEqual(adler32(DIGITS, start), defined_adler(DIGITS, start))
        for start in (0, ALL):
            self.assertEqual(crc32(DIGITS, start), defined_crc(DIGITS, start))

    def test_starts_out_of_range(self):
        for start in WRONG_ADLERS:
            self.assert_error(OutOfRange, 0, adler32, DIGITS, start)
            self.assert_error(OutOfRange, 0, adler32, [], start)
        for start in WRONG_CRCS:
            self.assert_error(OutOfRange, 0, crc32, DIGITS, start)
            self.assert_error(OutOfRange, 0, crc32, [], start)

    def test_the_list_is_not_modified(self):
        data = list(DIGITS)
        adler32(data)
        crc32(data)
        self.assertEqual(data, DIGITS)


class SumsOfJoinedListsTest(Case):
    def test_every_cut_of_a_list(self):
        data = some_bytes(numbers(104), 60)
        for cut in range(61):
            front, rest = data[:cut], data[cut:]
            size = len(rest)
            self.assertEqual(adler32_joined(adler32(front), adler32(rest), size), adler32(data))
            self.assertEqual(crc32_joined(crc32(front), crc32(rest), size), crc32(data))
            self.assertEqual(adler32_front(adler32(data), adler32(rest), size), adler32(front))
            self.assertEqual(crc32_front(crc32(data), crc32(rest), size), crc32(front))

    def test_long_lists(self):
        source = numbers(105)
        for first, second in ((4096, 4096), (0, 4096), (4096, 1), (4096, 0), (1, 3000)):
            front, rest = some_bytes(source, first), some_bytes(source, second)
            data = front + rest
            self.assertEqual(adler32_joined(adler32(front), adler32(rest), second), adler32(data))
            self.assertEqual(crc32_joined(crc32(front), crc32(rest), second), crc32(data))
            self.assertEqual(adler32_front(adler32(data), adler32(rest), second), adler32(front))
            self.assertEqual(crc32_front(crc32(data), crc32(rest), second), crc32(front))

    def test_empty_lists(self):
        self.assertEqual(adler32_joined(1, 1, 0), 1)
        self.assertEqual(crc32_joined(0, 0, 0), 0)
        self.assertEqual(adler32_front(1, 1, 0), 1)
        self.assertEqual(crc32_front(0, 0, 0), 0)

    def test_halves_of_adler_sums_at_their_bounds(self):
        for whole in ([255, 255, 20], [0] * 7, [255] * 257, [254] * 258):
            for cut in range(len(whole) + 1):
                front, rest = whole[:cut], whole[cut:]
                parts = (adler32(front), adler32(rest), len(rest))
                self.assertEqual(adler32_joined(*parts), adler32(whole))
                self.assertEqual(adler32_front(adler32(whole), *parts[1:]), parts[0])

    def test_sums_that_wrap_around(self):
        # 257 bytes of 255 fill the low half up to 65535, which is more than the modulus.
        data = [255] * 256 + [240]
        self.assertEqual(adler32(data) % 65536, 0)
        for size in (1, 2, 100):
            front, rest = data[:-size], data[-size:]
            self.assertEqual(adler32_joined(adler32(front), adler32(rest), size), adler32(data))
            self.assertEqual(adler32_front(adler32(data), adler32(rest), size), adler32(front))

    def test_large_sizes_of_zeros(self):
        for size in LARGE_SIZES:
            for front in ([], DIGITS, [255] * 300):
                adler, crc = adler32(front), crc32(front)
                rest_adler = adler_behind_zeros(1, size)
                rest_crc = crc_behind_zeros(0, size)
                whole_adler = adler_behind_zeros(adler, size)
                whole_crc = crc_behind_zeros(crc, size)
                self.assertEqual(adler32_joined(adler, rest_adler, size), whole_adler)
                self.assertEqual(crc32_joined(crc, rest_crc, size), whole_crc)
                self.assertEqual(adler32_front(whole_adler, rest_adler, size), adler)
                self.assertEqual(crc32_front(whole_crc, rest_crc, size), crc)

    def test_large_sizes_of_other_bytes(self):
        source = numbers(106)
        for size in LARGE_SIZES:
            end = some_bytes(source, 9)
            front = some_bytes(source, 12)
            rest_adler = adler32(end, adler_behind_zeros(1, size - 9))
            rest_crc = crc32(end, crc_behind_zeros(0, size - 9))
            whole_adler = adler32(end, adler_behind_zeros(adler32(front), size - 9))
            whole_crc = crc32(end, crc_behind_zeros(crc32(front), size - 9))
            self.assertEqual(adler32_joined(adler32(front), rest_adler, size), whole_adler)
            self.assertEqual(crc32_joined(crc32(front), rest_crc, size), whole_crc)
            self.assertEqual(adler32_front(whole_adler, rest_adler, size), adler32(front))
            self.assertEqual(crc32_front(whole_crc, rest_crc, size), crc32(front))

    def test_the_number_of_steps_grows_with_the_bits_of_the_size(self):
        for function in (adler32_joined, adler32_front, crc32_joined, crc32_front):
            short = lines_run(function, 1, 1, 2 ** 10 - 1)
            long = lines_run(function, 1, 1, 2 ** 40 - 1)
            self.assertLessEqual(long, 5 * short)


class WrongSumsTest(Case):
    def test_each_argument_out_of_range(self):
        for function in (adler32_joined, adler32_front):
            for wrong in WRONG_ADLERS:
                self.assert_error(OutOfRange, 0, function, wrong, 1, 0)
                self.assert_error(OutOfRange, 1, function, 1, wrong, 0)
        for function in (crc32_joined, crc32_front):
            for wrong in WRONG_CRCS:
                self.assert_error(OutOfRange, 0, function, wrong, 0, 0)
                self.assert_error(OutOfRange, 1, function, 0, wrong, 0)

    def test_sizes_out_of_range(self):
        for function in (adler32_joined, adler32_front, crc32_joined, crc32_front):
            for size in (-1, -2 ** 40, 2 ** 40 + 1, 2 ** 80):
                self.assert_error(OutOfRange, 2, function, 1, 1, size)

    def test_the_first_argument_out_of_range_decides(self):
        for function in (adler32_joined, adler32_front, crc32_joined, crc32_front):
            self.assert_error(OutOfRange, 0, function, -1, 2 ** 32, -1)
            self.assert_error(OutOfRange, 0, function, -1, 1, -1)
            self.assert_error(OutOfRange, 0, function, -1, -1, 0)
            self.assert_error(OutOfRange, 1, function, 1, 2 ** 32, -1)

    def test_sums_at_their_bounds_are_accepted(self):
        for function in (adler32_joined, adler32_front):
            for adler in VALID_ADLERS:
                self.assertTrue(0 <= function(adler, adler, 2 ** 40) < 2 ** 32)
        for function in (crc32_joined, crc32_front):
            for crc in (0, ALL):
                self.assertTrue(0 <= function(crc, crc, 2 ** 40) < 2 ** 32)


if __name__ == "__main__":
    unittest.main()
