"""Points 202 and 203, and bellows/codes/reading.py."""

import itertools
import unittest

from bellows.base.bits import BitReader, BitWriter
from bellows.codes.canon import codes
from bellows.codes.reading import Book
from bellows.errors import BadCode, NoCode, TooManyCodes, Truncated
from checks import Case, complete_lengths, numbers

FIXED_LETTERS = [8] * 144 + [9] * 112 + [7] * 24 + [8] * 8


def packed(bits):
    writer = BitWriter()
    for bit in bits:
        writer.put(bit, 1)
    return writer.data()


def read_as_defined(lengths, bits):
    """What point 203 gives for bits that are all that is left: a symbol and its width, or an error."""
    words = {}
    for symbol, (code, length) in enumerate(zip(codes(lengths), lengths)):
        if length:
            words[tuple(code >> k & 1 for k in reversed(range(length)))] = symbol
    if not words:
        return BadCode
    for width in range(1, 17):
        if width > len(bits):
            return Truncated
        begun = tuple(bits[:width])
        if begun in words:
            return words[begun], width
        if not any(word[:width] == begun for word in words):
            return BadCode


class ReadTest(Case):
    def check_read(self, lengths, bits, before, behind):
        """Read from a reader that has other bits before its start and behind its end."""
        data = packed([1] * before + list(bits) + [1] * behind)
        end = before + len(bits)
        reader = BitReader(data, before, end)
        expected = read_as_defined(lengths, bits)
        if expected is Truncated:
            self.assert_error(Truncated, end, Book(lengths).read, reader)
            self.assertEqual(reader.place(), before)
        elif expected is BadCode:
            self.assert_error(BadCode, before, Book(lengths).read, reader)
            self.assertEqual(reader.place(), before)
        else:
            self.assertEqual(Book(lengths).read(reader), expected[0])
            self.assertEqual(reader.place(), before + expected[1])

    def test_all_short_sequences_of_bits_against_the_definition(self):
        for lengths in ([], [0, 0], [1], [0, 2], [3], [1, 1], [1, 2], [2, 1], [2, 2, 3], [1, 3, 3],
                        [2, 1, 0, 3, 3], [3, 3, 3, 3, 3], [4, 4, 2, 0, 2], [1, 2, 3, 4, 4], [5, 1]):
            for size in range(7):
                for number, bits in enumerate(itertools.product((0, 1), repeat=size)):
                    self.check_read(lengths, bits, number % 5, number % 3)

    def test_long_codes_against_the_definition(self):
        source = numbers(203)
        whole = list(range(1, 16)) + [15]
        for lengths in (whole, whole[:-1], [15], [15] * 320, [0] * 319 + [14], whole[5:], [15, 1]):
            for size in (0, 1, 13, 14, 15, 16, 20):
                for _ in range(20):
                    ones = source.random()
                    bits = [int(source.random() < ones) for _ in range(size)]
                    self.check_read(lengths, bits, source.randint(0, 9), source.randint(0, 9))

    def test_symbols_are_written_and_read_again(self):
        source = numbers(202)
        tried = [FIXED_LETTERS, [5] * 32, [1], [0, 15], [2, 1, 0, 3, 3]]
        tried += [complete_lengths(source, size) for size in (2, 3, 19, 286, 320)]
        for lengths in tried:
            book = Book(lengths)
            symbols = [symbol for symbol, length in enumerate(lengths) if length] * 2
            source.shuffle(symbols)
            writer = BitWriter()
            writer.put(5, 3)
            for symbol in symbols:
                book.write(symbol, writer)
            reader = BitReader(writer.data(), 3)
            self.assertEqual([book.read(reader) for _ in symbols], symbols)
            self.assertEqual(reader.place(), writer.count())

    def test_each_code_that_is_cut_off(self):
        source = numbers(2031)
        for lengths in (list(range(1, 16)) + [15], complete_lengths(source, 60)):
            book = Book(lengths)
            for symbol, length in enumerate(lengths):
                writer = BitWriter()
                writer.put(0, 6)
                book.write(symbol, writer)
                for width in range(length):
                    reader = BitReader(writer.data(), 6, 6 + width)
                    self.assert_error(Truncated, 6 + width, book.read, reader)
                    self.assertEqual((reader.place(), reader.left()), (6, width))
                reader = BitReader(writer.data(), 6, 6 + length)
                self.assertEqual(book.read(reader), symbol)
                self.assertEqual(reader.left(), 0)

    def test_bits_that_no_code_begins_with(self):
        book = Book([2, 2, 2])
        reader = BitReader([0b11000110])
        self.assertEqual([book.read(reader) for _ in range(3)], [1, 2, 0])
        self.assert_error(BadCode, 6, book.read, reader)
        self.assertEqual(reader.place(), 6)
        self.assert_error(BadCode, 6, book.read, reader)
        reader = BitReader([0b11000110], 6, 7)
        self.assert_error(Truncated, 7, book.read, reader)
        self.assertEqual(reader.place(), 6)

    def test_a_list_without_any_code(self):
        for lengths in ([], [0], [0] * 320):
            for at in (0, 3, 8):
                reader = BitReader([0], at)
                self.assert_error(BadCode, at, Book(lengths).read, reader)
                self.assertEqual(reader.place(), at)

    def test_a_single_code_of_one_bit(self):
        book = Book([0, 0, 1])
        reader = BitReader([0b0100])
        self.assertEqual([book.read(reader), book.read(reader)], [2, 2])
        self.assert_error(BadCode, 2, book.read, reader)
        self.assertEqual(reader.place(), 2)


class WriteTest(Case):
    def test_the_codes_are_written(self):
        lengths = [2, 1, 0, 3, 3]
        book = Book(lengths)
        for symbol, bits in ((0, [1, 0]), (1, [0]), (3, [1, 1, 0]), (4, [1, 1, 1])):
            writer = BitWriter()
            self.assertIsNone(book.write(symbol, writer))
            self.assertEqual(writer.count(), len(bits))
            self.assertEqual(writer.data(), packed(bits))

    def test_symbols_without_a_code(self):
        for lengths in ([2, 1, 0, 3, 3], [0], []):
            book = Book(lengths)
            for symbol in (-1, -2, -5, 2, len(lengths), 5, 320, 2 ** 40):
                writer = BitWriter()
                writer.put(0, 11)
                if symbol not in range(len(lengths)) or lengths[symbol] == 0:
                    self.assert_error(NoCode, 11, book.write, symbol, writer)
                    self.assertEqual(book.size(symbol), 0)
                    self.assertEqual((writer.count(), writer.data()), (11, [0, 0]))

    def test_sizes(self):
        source = numbers(2020)
        for lengths in ([], [0], [15], [2, 1, 0, 3, 3], complete_lengths(source, 320)):
            book = Book(lengths)
            self.assertEqual([book.size(symbol) for symbol in range(len(lengths))], lengths)
            for symbol in (-1, -len(lengths), len(lengths), 10 ** 6):
                self.assertEqual(book.size(symbol), 0 if symbol or not lengths else lengths[0])


class BookTest(Case):
    def test_oversubscribed_lists(self):
        self.assert_error(TooManyCodes, 2, Book, [1, 1, 1])
        self.assert_error(TooManyCodes, 4, Book, [0, 1, 1, 0, 15, 1])
        self.assert_error(TooManyCodes, 32, Book, [5] * 320)

    def test_a_book_keeps_its_own_copy(self):
        lengths = [2, 1, 0, 3, 3]
        book = Book(lengths)
        lengths[1] = 0
        lengths[2] = 4
        lengths.append(7)
        self.assertEqual([book.size(symbol) for symbol in range(6)], [2, 1, 0, 3, 3, 0])
        self.assertEqual(book.read(BitReader([0])), 1)
        writer = BitWriter()
        book.write(4, writer)
        self.assertEqual((writer.count(), writer.data()), (3, [7]))
        self.assert_error(NoCode, 3, book.write, 2, writer)
        lengths.clear()
        self.assertEqual(book.read(BitReader([7])), 4)

    def test_the_lengths_are_not_modified(self):
        lengths = [2, 1, 0, 3, 3]
        book = Book(lengths)
        book.read(BitReader([255]))
        book.write(0, BitWriter())
        self.assertEqual(lengths, [2, 1, 0, 3, 3])


if __name__ == "__main__":
    unittest.main()
