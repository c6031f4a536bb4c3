"""Point 101 and bellows/base/bits.py."""

import unittest

from bellows.base.bits import BitReader, BitWriter
from bellows.errors import OutOfRange, Truncated
from checks import Case, numbers, some_bytes

WRONG_WIDTHS = [-1, -64, 65, 128, 2 ** 40]


def number_bits(value, width):
    return [value >> k & 1 for k in range(width)]


def code_bits(code, width):
    return number_bits(code, width)[::-1]


def packed(bits):
    """Bits as bytes, bit k being bit k % 8 of byte k // 8."""
    data = [0] * ((len(bits) + 7) // 8)
    for position, bit in enumerate(bits):
        data[position // 8] += bit << position % 8
    return data


def value_of(bits):
    return sum(bit << k for k, bit in enumerate(bits))


def fill(writer, bits, source, many):
    """Put many numbers and codes of any widths into a writer, and their bits into a list."""
    for _ in range(many):
        width = source.choice([0, 1, 2, 3, 7, 8, 9, 15, 16, 31, 32, 63, 64, source.randint(0, 64)])
        value = source.choice([0, 2 ** width - 1, source.randint(0, 2 ** width - 1)])
        if source.random() < 0.5:
            writer.put(value, width)
            bits += number_bits(value, width)
        else:
            writer.put_code(value, width)
            bits += code_bits(value, width)


class BitWriterTest(Case):
    def test_an_empty_writer(self):
        writer = BitWriter()
        self.assertEqual(writer.count(), 0)
        self.assertEqual(writer.data(), [])

    def test_a_number_begins_with_its_least_significant_bit(self):
        writer = BitWriter()
        writer.put(1, 3)
        writer.put(6, 4)
        self.assertEqual(writer.data(), [0b0110001])
        self.assertEqual(writer.count(), 7)

    def test_a_code_begins_with_its_most_significant_bit(self):
        writer = BitWriter()
        writer.put_code(1, 3)
        writer.put_code(0b1100, 4)
        self.assertEqual(writer.data(), [0b0011100])

    def test_every_width_alone(self):
        for width in range(65):
            for value in sorted({0, 2 ** width - 1, 2 ** width // 2, 2 ** width // 3}):
                writer = BitWriter()
                writer.put(value, width)
                self.assertEqual(writer.data(), packed(number_bits(value, width)))
                self.assertEqual(writer.count(), width)
                writer = BitWriter()
                writer.put_code(value, width)
                self.assertEqual(writer.data(), packed(code_bits(value, width)))
                self.assertEqual(writer.count(), width)

    def test_any_mixture(self):
        source = numbers(101)
        for _ in range(50):
            writer, bits = BitWriter(), []
            for _ in range(20):
                fill(writer, bits, source, 3)
                self.assertEqual(writer.count(), len(bits))
                self.assertEqual(writer.data(), packed(bits))
                if source.random() < 0.2:
                    writer.align()
                    bits += [0] * (-len(bits) % 8)

    def test_align_appends_zeros_up_to_a_multiple_of_8(self):
        for width in range(18):
            writer = BitWriter()
            writer.put(2 ** width - 1, width)
            writer.align()
            self.assertEqual(writer.count(), (width + 7) // 8 * 8)
            writer.align()
            self.assertEqual(writer.count(), (width + 7) // 8 * 8)
            writer.put(1, 1)
            zeros = [0] * (-width % 8)
            self.assertEqual(writer.data(), packed([1] * width + zeros + [1]))

    def test_data_does_not_change_the_writer(self):
        writer = BitWriter()
        writer.put(5, 3)
        self.assertEqual(writer.data(), [5])
        writer.put(1, 1)
        self.assertEqual(writer.data(), [13])
        self.assertEqual(writer.count(), 4)

    def test_data_is_a_new_list_each_time(self):
        for width in (0, 3, 8, 20):
            writer = BitWriter()
            writer.put(0, width)
            self.assert_new_list(writer.data)

    def test_a_copy_is_independent(self):
        for width in (0, 5, 8, 21):
            writer = BitWriter()
            writer.put(2 ** width - 1, width)
            twin = writer.copy()
            self.assertIsInstance(twin, BitWriter)
            self.assertEqual((twin.count(), twin.data()), (width, packed([1] * width)))
            twin.put(0, 9)
            twin.put(1, 1)
            writer.put(3, 12)
            self.assertEqual(twin.data(), packed([1] * width + [0] * 9 + [1]))
            self.assertEqual(writer.data(), packed([1] * width + [1, 1] + [0] * 10))
            self.assertEqual((twin.count(), writer.count()), (width + 10, width + 12))

    def test_widths_and_values_out_of_range(self):
        for before in (0, 1, 8, 77):
            writer = BitWriter()
            for _ in range(before):
                writer.put(1, 1)
            for method in (writer.put, writer.put_code):
                for width in WRONG_WIDTHS:
                    self.assert_error(OutOfRange, before, method, 0, width)
                    self.assert_error(OutOfRange, before, method, -1, width)
                for width in (0, 1, 7, 8, 63, 64):
                    for value in (-1, -2 ** 64, 2 ** width, 2 ** width + 1, 2 ** 70):
                        self.assert_error(OutOfRange, before, method, value, width)
            self.assertEqual(writer.count(), before)
            self.assertEqual(writer.data(), packed([1] * before))


class BitReaderTest(Case):
    def test_what_was_written_is_read(self):
        source = numbers(1010)
        for _ in range(100):
            writer, written = BitWriter(), []
            for _ in range(30):
                width = source.randint(0, 64)
                value = source.choice([0, 2 ** width - 1, source.randint(0, 2 ** width - 1)])
                writer.put(value, width)
                written.append((value, width))
            reader = BitReader(writer.data())
            for value, width in written:
                place = reader.place()
                self.assertEqual(reader.look(width), value)
                self.assertEqual(reader.place(), place)
                self.assertEqual(reader.take(width), value)
                self.assertEqual(reader.place(), place + width)

    def test_take_and_look_at_every_position(self):
        data = some_bytes(numbers(1011), 20)
        bits = [data[k // 8] >> k % 8 & 1 for k in range(160)]
        for at in range(161):
            for width in range(65):
                reader = BitReader(data, at)
                self.assertEqual(reader.look(width), value_of(bits[at:at + width]))
                if at + width <= 160:
                    self.assertEqual(reader.take(width), value_of(bits[at:at + width]))
                    self.assertEqual((reader.place(), reader.left()), (at + width, 160 - at - width))
                else:
                    self.assert_error(Truncated, 160, reader.take, width)
                    self.assertEqual((reader.place(), reader.left()), (at, 160 - at))

    def test_the_default_start_and_end(self):
        reader = BitReader([1, 2, 3])
        self.assertEqual((reader.place(), reader.left()), (0, 24))
        reader = BitReader([1, 2, 3], end=None)
        self.assertEqual((reader.place(), reader.left()), (0, 24))
        reader = BitReader([])
        self.assertEqual((reader.place(), reader.left()), (0, 0))

    def test_a_start_and_an_end(self):
        reader = BitReader([255, 255, 255], 5, 14)
        self.assertEqual((reader.place(), reader.left()), (5, 9))
        self.assertEqual(reader.look(12), 511)
        self.assert_error(Truncated, 14, reader.take, 10)
        self.assertEqual(reader.take(9), 511)
        self.assertEqual((reader.place(), reader.left()), (14, 0))
        self.assertEqual(reader.look(8), 0)
        self.assert_error(Truncated, 14, reader.take, 1)

    def test_starts_and_ends_at_their_bounds(self):
        for data in ([], [9], [1, 2, 3]):
            size = 8 * len(data)
            for at in range(size + 1):
                for end in range(at, size + 1):
                    reader = BitReader(data, at, end)
                    self.assertEqual((reader.place(), reader.left()), (at, end - at))

    def test_starts_and_ends_out_of_range(self):
        self.assert_error(OutOfRange, 0, BitReader, [], 1)
        self.assert_error(OutOfRange, 0, BitReader, [], 0, 1)
        for at, end in ((-1, None), (-1, 5), (17, None), (17, 17), (0, 17), (5, 4), (0, -1),
                        (-2, -1), (16, 15), (2 ** 40, 2 ** 40)):
            self.assert_error(OutOfRange, 0, BitReader, [1, 2], at, end)

    def test_the_reader_copies_its_data(self):
        data = [1, 2]
        reader = BitReader(data)
        data[0] = 255
        data.append(3)
        self.assertEqual(reader.look(8), 1)
        self.assertEqual(reader.left(), 16)
        data.clear()
        self.assertEqual(reader.take(16), 513)

    def test_reading_does_not_modify_the_data(self):
        data = [7, 8, 9]
        reader = BitReader(data)
        reader.take(5)
        reader.align()
        reader.look(20)
        self.assertEqual(data, [7, 8, 9])

    def test_widths_out_of_range(self):
        for at in (0, 3, 24):
            reader = BitReader([255, 255, 255], at)
            for width in WRONG_WIDTHS:
                self.assert_error(OutOfRange, at, reader.take, width)
                self.assert_error(OutOfRange, at, reader.look, width)
            self.assertEqual(reader.place(), at)

    def test_a_width_out_of_range_comes_before_missing_bits(self):
        reader = BitReader([255], 8)
        self.assert_error(OutOfRange, 8, reader.take, 65)
        self.assert_error(Truncated, 8, reader.take, 64)

    def test_every_method_at_the_end(self):
        for end in (0, 8, 11):
            reader = BitReader([255, 255], end, end)
            self.assertEqual(reader.take(0), 0)
            self.assertEqual((reader.look(0), reader.look(1), reader.look(64)), (0, 0, 0))
            self.assert_error(Truncated, end, reader.take, 1)
            self.assert_error(Truncated, end, reader.take, 64)
            self.assertEqual((reader.place(), reader.left()), (end, 0))

    def test_bits_that_are_not_left_count_as_0(self):
        reader = BitReader([255, 255], 10, 13)
        self.assertEqual([reader.look(width) for width in (2, 3, 4, 64)], [3, 7, 7, 7])

    def test_align_moves_to_the_next_multiple_of_8(self):
        for at in range(25):
            reader = BitReader([1, 2, 3], at)
            reader.align()
            self.assertEqual(reader.place(), (at + 7) // 8 * 8)
            reader.align()
            self.assertEqual(reader.place(), (at + 7) // 8 * 8)

    def test_align_beyond_the_end(self):
        for at, end in ((1, 7), (9, 15), (12, 12), (7, 7)):
            reader = BitReader([1, 2], at, end)
            self.assert_error(Truncated, end, reader.align)
            self.assertEqual(reader.place(), at)
        reader = BitReader([1, 2], 9, 16)
        reader.align()
        self.assertEqual((reader.place(), reader.left()), (16, 0))
        reader = BitReader([1, 2], 8, 8)
        reader.align()
        self.assertEqual(reader.place(), 8)


if __name__ == "__main__":
    unittest.main()
