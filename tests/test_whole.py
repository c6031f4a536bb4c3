"""Point 406 with its output, and bellows/inflate/whole.py."""

import unittest
import zlib

from bellows.errors import (
    BadCode, BadCount, BadDistances, BadKind, BadLengths, BadLetters, BadRepeat, BadStored, BadSymbol,
    NoEnd, OutOfRange, TooFar, TooMuch, Truncated,
)
from bellows.inflate.whole import inflate
from checks import Case, numbers, some_bytes
from streams import PlainUnits, bytes_of, head_bits, number_bits, placed, some_stream, spoilt


def compressed(data, level=6, strategy=0):
    machine = zlib.compressobj(level, zlib.DEFLATED, -15, 9, strategy)
    return list(machine.compress(bytes(data)) + machine.flush())


def fixed(*items):
    """The bits of one fixed block, the last one."""
    return placed([(1, 1, 0, 0, 0, list(items), [])])[0]


def stored(*data):
    return placed([(0, 1, 0, 0, 0, list(data), [0] * 5)])[0]


class OutputTest(Case):
    def test_the_example(self):
        self.assertEqual(inflate([75, 132, 3, 0]), ([97] * 10, 30))

    def test_small_streams(self):
        self.assertEqual(inflate([3, 0]), ([], 10))
        self.assertEqual(inflate(bytes_of(stored(1, 2, 255))), ([1, 2, 255], 64))
        self.assertEqual(inflate(bytes_of(stored())), ([], 40))
        self.assertEqual(inflate(bytes_of(fixed((0,), (200,), (257, 0, 1, 0)))), ([0, 200, 0, 200, 0], 39))

    def test_what_zlib_writes(self):
        source = numbers(4060)
        for size in (0, 1, 10, 500, 4096):
            for values in (1, 2, 30, 256):
                data = some_bytes(source, size, values - 1)
                for level in (0, 1, 6, 9):
                    for strategy in (0, 2, 3, 4):
                        stream = compressed(data, level, strategy)
                        found, end = inflate(stream)
                        self.assertEqual(found, data)
                        self.assertTrue(0 <= 8 * len(stream) - end < 8)

    def test_long_data(self):
        data = [k % 251 for k in range(65536)]
        self.assertEqual(inflate(compressed(data), limit=65536)[0], data)

    def test_streams_of_all_kinds(self):
        source = numbers(4062)
        for _ in range(200):
            start = source.choice([0, source.randint(0, 30)])
            dictionary = some_bytes(source, source.choice([0, 0, 1, 50]))
            stream, _, end = some_stream(source, start, len(dictionary))
            plain = PlainUnits(stream, start, dictionary, 65536)
            self.assertIsNone(plain.error)
            before = list(stream), list(dictionary)
            self.assertEqual(inflate(stream, start, dictionary, 65536), (plain.output(), end))
            self.assertEqual((stream, dictionary), before)

    def test_what_stands_behind_the_end_is_not_read(self):
        for more in ([], [0], [255], [255] * 20):
            self.assertEqual(inflate([3, 0] + more), ([], 10))
            self.assertEqual(inflate([3, 0 | 0xFC] + more), ([], 10))
            self.assertEqual(inflate(bytes_of(stored(7)) + more), ([7], 48))

    def test_the_start(self):
        bits = fixed((97,), (98,))
        for start in range(30):
            for around in "01":
                stream = bytes_of(around * start + bits, around)
                self.assertEqual(inflate(stream, start), ([97, 98], start + len(bits)))

    def test_fill_bits_count_from_the_first_byte(self):
        for start in range(17):
            block = (0, 1, 0, 0, 0, [1, 2], [1] * (-(start + 3) % 8))
            bits, _ = placed([block], start)
            self.assertEqual(inflate(bytes_of("0" * start + bits), start), ([1, 2], start + len(bits)))

    def test_new_lists(self):
        stream = bytes_of(stored(1, 2))
        first = inflate(stream)[0]
        first.append(3)
        self.assertEqual(inflate(stream)[0], [1, 2])
        self.assertIs(type(inflate(stream, 0, (1, 2))), tuple)


class LimitTest(Case):
    def test_literals(self):
        stream = bytes_of(fixed((97,), (98,), (99,)))
        self.assertEqual(inflate(stream, limit=3)[0], [97, 98, 99])
        self.assert_error(TooMuch, 19, inflate, stream, limit=2)
        self.assert_error(TooMuch, 11, inflate, stream, limit=1)
        self.assert_error(TooMuch, 3, inflate, stream, limit=0)
        self.assertEqual(inflate([3, 0], limit=0), ([], 10))

    def test_copies(self):
        stream = bytes_of(fixed((97,), (259, 0, 0, 0)))
        self.assertEqual(inflate(stream, limit=6)[0], [97] * 6)
        for limit in (1, 2, 5):
            self.assert_error(TooMuch, 11, inflate, stream, limit=limit)

    def test_stored_bytes(self):
        stream = bytes_of(stored(1, 2, 3))
        self.assertEqual(inflate(stream, limit=3)[0], [1, 2, 3])
        self.assert_error(TooMuch, 56, inflate, stream, limit=2)
        self.assert_error(TooMuch, 40, inflate, stream, limit=0)
        # A byte is read before it is too much.
        self.assert_error(Truncated, 56, inflate, stream[:-1], limit=2)
        self.assert_error(TooMuch, 48, inflate, stream[:-1], limit=1)

    def test_the_dictionary_does_not_count(self):
        stream = bytes_of(fixed((257, 0, 0, 0)))
        self.assertEqual(inflate(stream, 0, [5] * 100, 3), ([5] * 3, 22))
        self.assert_error(TooMuch, 3, inflate, stream, 0, [5] * 100, 2)

    def test_the_default_is_4096(self):
        data = [1] * 4096
        self.assertEqual(inflate(compressed(data))[0], data)
        with self.assertRaises(TooMuch):
            inflate(compressed(data + [1]))

    def test_the_greatest_limit(self):
        stream = compressed([1] * 65536)
        self.assertEqual(inflate(stream, limit=65536)[0], [1] * 65536)
        with self.assertRaises(TooMuch):
            inflate(compressed([1] * 65537), limit=65536)


class WindowTest(Case):
    def test_the_first_byte_of_the_dictionary(self):
        items = [(257, 0, 0, 0), (257, 0, 1, 0), (257, 0, 2, 0), (257, 0, 3, 0), (257, 0, 4, 0),
                 (257, 0, 4, 1), (257, 0, 5, 0), (257, 0, 5, 1)]
        for size in range(9):
            dictionary = list(range(size))
            for distance, item in enumerate(items, 1):
                stream = bytes_of(fixed(item))
                if distance <= size:
                    history = list(dictionary)
                    for _ in range(3):
                        history.append(history[-distance])
                    self.assertEqual(inflate(stream, 0, dictionary)[0], history[size:])
                else:
                    self.assert_error(TooFar, 3, inflate, stream, 0, dictionary)

    def test_output_and_dictionary_together(self):
        stream = bytes_of(fixed((1,), (2,), (257, 0, 3, 0)))
        self.assertEqual(inflate(stream, 0, [8, 9])[0], [1, 2, 8, 9, 1])
        self.assert_error(TooFar, 19, inflate, stream, 0, [9])

    def test_the_window(self):
        stream = bytes_of(fixed((1,), (2,), (3,), (4,), (257, 0, 3, 0)))
        self.assertEqual(inflate(stream, window=4)[0], [1, 2, 3, 4, 1, 2, 3])
        self.assert_error(TooFar, 35, inflate, stream, window=3)
        self.assert_error(TooFar, 35, inflate, stream, window=1)
        self.assert_error(TooFar, 3, inflate, bytes_of(fixed((257, 0, 1, 0))), 0, [1, 2, 3], 4096, 1)

    def test_the_greatest_distance(self):
        data = [7] + [8] * 32767
        stream = bytes_of(placed([(0, 0, 0, 0, 0, data, [0] * 5), (1, 1, 0, 0, 0, [(257, 0, 29, 8191)], [])])[0])
        self.assertEqual(inflate(stream, limit=65536)[0], data + [7, 8, 8])
        self.assert_error(TooFar, 40 + 8 * 32768 + 3, inflate, stream, limit=65536, window=32767)


class ErrorTest(Case):
    def check(self, kind, at, bits, **named):
        self.assert_error(kind, at, inflate, bytes_of(bits), **named)

    def test_arguments(self):
        for start in (-1, 17):
            self.assert_error(OutOfRange, 0, inflate, [3, 0], start, [], -1, 0)
        for limit in (-1, 65537):
            self.assert_error(OutOfRange, 1, inflate, [3, 0], 0, [], limit, 0)
        for window in (-1, 0, 32769):
            self.assert_error(OutOfRange, 2, inflate, [3, 0], 0, [], 0, window)
            self.assert_error(OutOfRange, 2, inflate, [255], 0, [], 65536, window)
        self.assertEqual(inflate([3, 0], 0, [], 0, 1), ([], 10))
        self.assert_error(Truncated, 16, inflate, [3, 0], 16, [], 65536, 32768)
        self.assert_error(Truncated, 0, inflate, [])

    def test_each_error(self):
        self.check(BadKind, 1, "111")
        self.check(BadStored, 24, "100" + "00000" + number_bits(1, 16) + number_bits(65535, 16))
        self.check(BadCount, 3, "101" + number_bits(30, 5))
        self.check(BadCount, 8, "101" + number_bits(29, 5) + number_bits(30, 5))
        self.check(BadLengths, 17, "101" + "0" * 30)
        self.check(BadSymbol, 3, "110" + "11000110")
        self.check(BadSymbol, 10, "110" + "0000001" + "11110")
        low = [0, 0, 2, 2] + [0] * 13 + [1]
        first = 17 + 54

        def head(letters, distances, rows):
            return "101" + head_bits((letters, distances, low, rows))

        zeros = [(18, 127), (18, 107)]
        self.check(BadRepeat, len(head(257, 1, zeros)), head(257, 1, zeros + [(18, 0)]))
        self.check(NoEnd, first, head(257, 1, zeros + [(0, 0), (1, 0)]))
        self.check(BadLetters, first, head(258, 2, [(1, 0), (18, 127), (18, 106)] + [(1, 0)] * 4))
        self.check(BadDistances, first, head(257, 3, zeros + [(1, 0)] * 4))
        one_letter = head(257, 1, zeros + [(1, 0), (0, 0)])
        self.check(BadCode, len(one_letter), one_letter + "1")
        self.check(TooFar, 3, fixed((257, 0, 0, 0)))
        self.check(TooMuch, 3, fixed((0,)), limit=0)

    def test_the_order_where_several_apply(self):
        # Too far comes before too much, and a symbol that is not allowed before both.
        self.check(TooFar, 3, fixed((285, 0, 0, 0)), limit=1)
        self.check(TooMuch, 3, fixed((285, 0, 0, 0)), limit=1, dictionary=[1])
        self.check(TooFar, 3, fixed((285, 0, 1, 0)), limit=1, dictionary=[1, 2], window=1)
        self.check(BadSymbol, 10, "110" + "0000001" + "11111", limit=1)
        self.check(BadSymbol, 3, "110" + "11000111", limit=0)
        # A copy is read to its end before its distance is looked at.
        self.check(Truncated, 16, "110" + "0000001" + "11101" + "0", limit=0)
        # The first error in the stream decides, not the first block that could be seen to be wrong.
        self.check(TooFar, 3, fixed((257, 0, 0, 0)) + "011")
        self.check(BadKind, 41, placed([(0, 0, 0, 0, 0, [], [0] * 5)])[0] + "011")

    def test_every_proper_beginning(self):
        source = numbers(4063)
        for _ in range(15):
            stream, _, end = some_stream(source)
            for size in range((end + 7) // 8):
                self.assert_error(Truncated, 8 * size, inflate, stream[:size], limit=65536)

    def test_spoilt_streams(self):
        source = numbers(4064)
        seen = set()
        for _ in range(1200):
            dictionary = some_bytes(source, source.choice([0, 0, 3]))
            stream = spoilt(source, some_stream(source, 0, len(dictionary))[0])
            limit = source.choice([65536, 4096, source.randint(0, 100)])
            window = source.choice([32768, 32768, source.randint(1, 100)])
            plain = PlainUnits(stream, 0, dictionary, limit, window)
            if plain.error is None:
                expected = plain.output(), plain.units[-1][0]
                self.assertEqual(inflate(stream, 0, dictionary, limit, window), expected)
            else:
                seen.add(type(plain.error))
                self.assert_error(type(plain.error), plain.error.at, inflate, stream, 0, dictionary,
                                  limit, window)
        self.assertGreaterEqual(seen, {Truncated, BadKind, BadStored, BadLengths, BadSymbol, BadCode,
                                       TooFar, TooMuch})


if __name__ == "__main__":
    unittest.main()
