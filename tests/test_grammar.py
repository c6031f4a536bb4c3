"""Points 401 to 405 and 407, and bellows/inflate/grammar.py."""

import copy
import unittest

from bellows.base.bits import BitWriter
from bellows.errors import (
    BadCode, BadCount, BadDistances, BadKind, BadLengths, BadLetters, BadRepeat, BadStored, BadSymbol,
    BellowsError, NoEnd, NotLegal, OutOfRange, Truncated,
)
from bellows.inflate.grammar import (
    block_lengths, block_tokens, is_legal, items_of, read_blocks, write_blocks,
)
from checks import Case, numbers, some_bytes
from streams import (
    FIXED_DISTANCES, FIXED_LETTERS, block_bits, bytes_of, head_bits, number_bits, placed, plain_blocks,
    plain_item, plain_lengths, plain_token, some_block, some_blocks, some_code, some_head, some_stream,
    spoilt,
)

# A fixed block with nothing, a stored one with three bytes, and a fixed one with items, the last.
SMALL = [
    (1, 0, 0, 3, 10, [], []),
    (0, 0, 10, 48, 72, [1, 2, 255], [1, 0, 1]),
    (1, 1, 72, 75, 111, [(97,), (260, 0, 0, 0), (144,)], []),
]
SMALL_BITS = ("0" + "10" + "0000000"
              + "0" + "00" + "101" + number_bits(3, 16) + number_bits(65532, 16)
              + "10000000" + "01000000" + "11111111"
              + "1" + "10" + "10010001" + "0000100" + "00000" + "110010000" + "0000000")


def dynamic(letters, distances, numbers_and_rows, content, is_last=1):
    """A dynamic block of which only the head and the content matter."""
    return (2, is_last, 0, 0, 0, content, (letters, distances) + numbers_and_rows)


# The rows for 256 zeros, a 1, and a distance: the codes of 0, 1 and 18 have 2, 1 and 2 bits.
ZERO_ROWS = [(18, 127), (18, 107)]
LOW = ([0, 0, 2, 2] + [0] * 13 + [1], ZERO_ROWS + [(1, 0), (0, 0)])


class ReadTest(Case):
    def test_a_stream_by_hand(self):
        self.assertEqual(read_blocks(bytes_of(SMALL_BITS)), (SMALL, 111))

    def test_what_stands_around_the_stream_plays_no_part(self):
        for start in range(20):
            bits, blocks = placed([SMALL[0], (1, 1, 0, 0, 0, [(7,)], [])], start)
            for around in "01":
                stream = bytes_of(around * start + bits, around) + [255, 3] * (around == "1")
                self.assertEqual(read_blocks(stream, start), (blocks, start + len(bits)))

    def test_streams_of_all_kinds(self):
        source = numbers(401)
        for _ in range(300):
            start = source.choice([0, 0, source.randint(0, 30)])
            stream, blocks, end = some_stream(source, start)
            self.assertEqual(read_blocks(stream, start), (blocks, end))
            self.assertEqual(plain_blocks(stream, start), (blocks, end))

    def test_the_kinds_of_the_parts(self):
        stream, blocks, end = some_stream(numbers(4), 0, 0, 12)
        found, place = read_blocks(stream)
        self.assertIs(type(found), list)
        self.assertIs(type(place), int)
        for block in found:
            self.assertIs(type(block), tuple)
            self.assertIs(type(block[5]), list)
            self.assertIs(type(block[6]), tuple if block[0] == 2 else list)
            if block[0] == 2:
                self.assertIs(type(block[6][2]), list)
                self.assertIs(type(block[6][3]), list)
        self.assertIsNot(read_blocks(stream)[0], read_blocks(stream)[0])

    def test_the_argument_stays_as_it_is(self):
        stream = bytes_of(SMALL_BITS)
        before = list(stream)
        found = read_blocks(stream)[0]
        found[1][5].append(9)
        self.assertEqual(stream, before)
        self.assertEqual(read_blocks(stream), (SMALL, 111))

    def test_start_out_of_range(self):
        for start in (-1, 17, 100):
            self.assert_error(OutOfRange, 0, read_blocks, [3, 0], start)
        self.assert_error(OutOfRange, 0, read_blocks, [], 1)
        self.assert_error(Truncated, 0, read_blocks, [], 0)
        self.assert_error(Truncated, 16, read_blocks, [3, 0], 16)
        self.assertEqual(read_blocks([0] * 5 + [3, 0], 40)[1], 50)

    def test_stored_blocks_of_both_greatest_and_least_size(self):
        for size in (0, 1, 65535):
            content = some_bytes(numbers(size), size)
            for before in range(8):
                fill = [1] * (-(before * 10 + 3) % 8)
                blocks = [SMALL[0]] * before + [(0, 1, 0, 0, 0, content, fill)]
                if size < 65535 or before == 3:
                    bits, blocks = placed(blocks)
                    self.assertEqual(read_blocks(bytes_of(bits)), (blocks, len(bits)))
                    self.assertIs(is_legal(blocks), True)

    def test_symbols_at_the_ends_of_the_tables(self):
        content = [(0,), (143,), (144,), (255,), (257, 0, 0, 0), (257, 0, 3, 0), (264, 0, 4, 1),
                   (265, 1, 5, 0), (284, 0, 29, 0), (284, 30, 29, 8191), (284, 31, 28, 8191),
                   (285, 0, 0, 0), (280, 15, 10, 15), (279, 7, 2, 0)]
        bits, blocks = placed([(1, 1, 0, 0, 0, content, [])])
        stream = bytes_of(bits)
        self.assertEqual(read_blocks(stream), (blocks, len(bits)))
        tokens = [(0,), (143,), (144,), (255,), (3, 1), (3, 4), (10, 6), (12, 7), (227, 24577),
                  (257, 32768), (258, 24576), (258, 1), (130, 48), (106, 3)]
        self.assertEqual(block_tokens(blocks[0]), tokens)

    def test_fixed_codes_by_hand(self):
        for symbol, code in [(0, "00110000"), (143, "10111111"), (144, "110010000"),
                             (255, "111111111")]:
            stream = bytes_of("1" + "10" + code + "0000000")
            self.assertEqual(read_blocks(stream)[0][0][5], [(symbol,)])
        for symbol, code in [(257, "0000001"), (264, "0001000"), (285, "11000101")]:
            stream = bytes_of("1" + "10" + code + "00010" + "0000000")
            self.assertEqual(read_blocks(stream)[0][0][5], [(symbol, 0, 2, 0)])

    def test_heads_at_their_ends(self):
        source = numbers(405)
        for letter_count in (257, 258, 285, 286):
            for distance_count in (1, 2, 29, 30):
                letters = some_code(source, letter_count, [256, letter_count - 1][:letter_count - 256])
                distances = some_code(source, distance_count, [distance_count - 1])
                head = some_head(source, letters, distances)
                bits, blocks = placed([(2, 1, 0, 0, 0, [], head)])
                self.assertEqual(read_blocks(bytes_of(bits)), (blocks, len(bits)))
                self.assertEqual(block_lengths(blocks[0]), (letters, distances))

    def test_few_and_many_small_numbers(self):
        # Four numbers: the symbols 16, 17, 18, 0; of them no list has the symbol 256.
        bits = "1" + "01" + number_bits(0, 5) + number_bits(0, 5) + number_bits(0, 4)
        bits += number_bits(2, 3) * 4
        bits += "11" + number_bits(127, 7) + "11" + number_bits(109, 7)
        self.assert_error(NoEnd, 29, read_blocks, bytes_of(bits))
        block = dynamic(257, 1, LOW, [])
        bits, blocks = placed([block])
        self.assertEqual(len(block[6][2]), 18)
        self.assertEqual(read_blocks(bytes_of(bits)), (blocks, len(bits)))
        longer = dynamic(257, 1, (LOW[0] + [0], LOW[1]), [])
        bits, blocks = placed([longer])
        self.assertEqual(read_blocks(bytes_of(bits)), (blocks, len(bits)))

    def test_rows_of_all_kinds_across_the_border(self):
        # Letters: 255 zeros, then 1 1; distances: 0 0 0. The last row but one belongs to both.
        numbers_of_head = [3, 3, 2, 2] + [0] * 13 + [2]
        for rows in ([(18, 127), (18, 106), (1, 0), (1, 0), (17, 0)],
                     [(18, 127), (18, 106), (1, 0), (1, 0), (0, 0), (0, 0), (0, 0)]):
            block = dynamic(257, 3, (numbers_of_head, rows), [(255,)])
            bits, blocks = placed([block])
            self.assertEqual(read_blocks(bytes_of(bits)), (blocks, len(bits)))
            self.assertEqual(block_lengths(block), ([0] * 255 + [1, 1], [0, 0, 0]))

    def test_a_repetition_that_crosses_the_border(self):
        # 16 letters of 4 bits and 16 distances of 4 bits; one row repeats the last letter's.
        letters = [4] * 15 + [0] * 241 + [4]
        self.assertEqual(sum(one == 4 for one in letters), 16)
        rows = [(4, 0), (16, 3), (16, 3), (4, 0), (4, 0), (18, 127), (18, 92), (4, 0),
                (16, 3), (16, 3), (16, 1)]
        numbers_of_head = [1, 0, 2] + [0] * 8 + [2]
        block = dynamic(257, 16, (numbers_of_head, rows), [(0,), (14,)])
        bits, blocks = placed([block])
        self.assertEqual(read_blocks(bytes_of(bits)), (blocks, len(bits)))
        self.assertEqual(block_lengths(block), (letters, [4] * 16))
        self.assertIs(is_legal(blocks), True)


class ErrorTest(Case):
    def check(self, kind, at, bits):
        self.assert_error(kind, at, read_blocks, bytes_of(bits))

    def test_header(self):
        for start in range(9):
            stream = bytes_of("0" * start + "011")
            self.assert_error(BadKind, start + 1, read_blocks, stream, start)
        self.assert_error(Truncated, 8, read_blocks, [255], 6)
        self.assert_error(Truncated, 8, read_blocks, [255], 7)
        self.assert_error(Truncated, 8, read_blocks, [255], 8)
        self.assert_error(BadKind, 6, read_blocks, [255], 5)

    def test_stored(self):
        self.check(BadStored, 24, "100" + "00000" + number_bits(1, 16) + number_bits(65535, 16))
        self.check(BadStored, 24, "100" + "11111" + number_bits(0, 16) + number_bits(65534, 16))
        self.check(Truncated, 16, "100" + "11111" + number_bits(0, 8))
        self.check(Truncated, 32, "100" + "11111" + number_bits(0, 16) + number_bits(0, 8))
        self.check(Truncated, 48, "100" + "11111" + number_bits(2, 16) + number_bits(65533, 16) + "0")

    def test_counts(self):
        for letters in (30, 31):
            self.check(BadCount, 3, "101" + number_bits(letters, 5))
            self.check(BadCount, 3, "101" + number_bits(letters, 5) + number_bits(30, 5) + "0")
        for distances in (30, 31):
            self.check(BadCount, 8, "101" + number_bits(29, 5) + number_bits(distances, 5))
        self.check(Truncated, 8, "101" + number_bits(29, 5))
        self.check(Truncated, 16, "101" + number_bits(29, 5) + number_bits(29, 5))

    def test_small_numbers(self):
        start = "101" + number_bits(0, 5) + number_bits(0, 5)
        for small in ([0] * 4, [1, 0, 0, 0], [1, 1, 1, 0], [1, 2, 3, 4], [7] * 19, [1, 1] + [7] * 17):
            bits = start + number_bits(len(small) - 4, 4)
            bits += "".join(number_bits(one, 3) for one in small)
            self.check(BadLengths, 17, bits)
        self.check(Truncated, 24, start + number_bits(15, 4) + "111")
        self.check(Truncated, 32, start + number_bits(3, 4) + number_bits(1, 3) * 3 + "00")

    def head(self, letters, distances, small, rows):
        return "101" + head_bits((letters, distances, small, rows))

    def test_rows(self):
        low, rows = LOW
        first = 17 + 3 * len(low)
        # A repetition of nothing, with its two extra bits there, and with one of them missing.
        with_16 = [2, 0, 2, 2] + [0] * 13 + [2]
        bits = self.head(257, 1, with_16, [(16, 0)])
        self.assertEqual(len(bits) - first, 4)
        self.check(BadRepeat, first, bits)
        cut = 8 * (len(bits) // 8)
        self.assertLess(first, cut)
        self.check(Truncated, cut, bits[:cut])
        # One element too many, by a row of each kind; the row that is wrong is told, not the first.
        for small, more in [(low, [(18, 127), (18, 110)]), (low, [(18, 127), (18, 107), (1, 0), (18, 0)]),
                            (with_16, [(18, 127), (18, 107), (1, 0), (16, 0)]),
                            ([0, 2, 2, 2] + [0] * 13 + [2], [(18, 127), (18, 107), (1, 0), (17, 0)])]:
            before = len(self.head(257, 1, small, more[:-1]))
            self.check(BadRepeat, before, self.head(257, 1, small, more))
        self.check(Truncated, 72, self.head(257, 1, low, rows[:-2])[:72])

    def test_lists(self):
        low, rows = LOW
        first = 17 + 3 * len(low)
        self.check(NoEnd, first, self.head(257, 1, low, [(18, 127), (18, 106), (1, 0), (0, 0), (1, 0)]))
        # NoEnd comes first, then BadLetters, then BadDistances.
        self.check(NoEnd, first, self.head(258, 3, low, [(1, 0)] * 3 + [(18, 127), (18, 104), (0, 0), (1, 0),
                                                                      (1, 0), (1, 0), (1, 0)]))
        self.check(BadLetters, first, self.head(258, 3, low, [(1, 0), (18, 127), (18, 106), (1, 0), (1, 0),
                                                              (1, 0), (1, 0), (1, 0)]))
        self.check(BadDistances, first, self.head(257, 3, low, ZERO_ROWS + [(1, 0)] * 4))
        with_2 = [0, 0, 2, 2] + [0] * 11 + [2, 0, 2]
        first = 17 + 3 * len(with_2)
        self.check(BadLetters, first, self.head(257, 1, with_2, ZERO_ROWS + [(2, 0), (0, 0)]))
        self.check(BadDistances, first, self.head(257, 1, with_2, ZERO_ROWS + [(1, 0), (2, 0)]))
        self.check(BadDistances, first, self.head(257, 2, with_2, ZERO_ROWS + [(1, 0), (1, 0), (2, 0)]))

    def test_lists_that_are_allowed(self):
        low, rows = LOW
        for distances in ([(0, 0)], [(1, 0)], [(0, 0), (1, 0)], [(1, 0), (1, 0)], [(0, 0), (0, 0)]):
            head = (257, len(distances), low, ZERO_ROWS + [(1, 0)] + distances)
            bits, blocks = placed([(2, 1, 0, 0, 0, [], head)])
            self.assertEqual(read_blocks(bytes_of(bits)), (blocks, len(bits)))

    def test_symbols(self):
        self.check(BadSymbol, 3, "110" + "11000110")
        self.check(BadSymbol, 11, "110" + "00110000" + "11000111" + "00000")
        self.check(BadSymbol, 10, "110" + "0000001" + "11110")
        self.check(BadSymbol, 11, "110" + "0001001" + "1" + "11111")
        self.check(Truncated, 8, "110" + "00000")
        self.check(Truncated, 16, "110" + "0000001" + "111")

    def test_codes_that_are_not_there(self):
        low, rows = LOW
        # The one letter is 256, with the code 0.
        bits = self.head(257, 1, low, rows)
        self.check(BadCode, len(bits), bits + "1")
        # A copy where no distance has a code: nothing is read of it.
        small = [0, 0, 2, 2] + [0] * 13 + [1]
        rows = [(18, 127), (18, 107), (1, 0), (1, 0), (0, 0)]
        bits = self.head(258, 1, small, rows)
        self.check(BadCode, len(bits) + 1, bits + "1")
        # One distance with the code 0.
        bits = self.head(258, 1, small, rows[:-1] + [(1, 0)])
        self.check(BadCode, len(bits) + 1, bits + "1" + "1")
        blocks = read_blocks(bytes_of(bits + "10" + "0"))[0]
        self.assertEqual(blocks[0][5], [(257, 0, 0, 0)])

    def test_spoilt_streams_raise_what_a_plain_reader_raises(self):
        source = numbers(406)
        seen = set()
        for _ in range(1200):
            stream = spoilt(source, some_stream(source)[0])
            try:
                expected = plain_blocks(stream)
            except BellowsError as error:
                seen.add(type(error))
                self.assert_error(type(error), error.at, read_blocks, stream)
            else:
                self.assertEqual(read_blocks(stream), expected)
        self.assertGreaterEqual(seen, {Truncated, BadKind, BadStored, BadLengths, BadSymbol, BadCode})

    def test_every_proper_beginning(self):
        source = numbers(4061)
        for _ in range(12):
            stream, _, end = some_stream(source)
            stream = stream[:(end + 7) // 8]
            for size in range(len(stream)):
                self.assert_error(Truncated, 8 * size, read_blocks, stream[:size])


class LegalTest(Case):
    def check_legal(self, blocks, start=0):
        before = copy.deepcopy(blocks)
        writer = BitWriter()
        for _ in range(start):
            writer.put(1, 1)
        self.assertIs(is_legal(blocks, start), True)
        self.assertIsNone(write_blocks(writer, blocks))
        self.assertEqual(blocks, before)
        bits, in_place = placed(blocks, start)
        self.assertEqual(writer.count(), start + len(bits))
        self.assertEqual(writer.data(), bytes_of("1" * start + bits))
        self.assertEqual(read_blocks(writer.data(), start), (in_place, start + len(bits)))

    def check_not_legal(self, blocks, index, start=0):
        before = copy.deepcopy(blocks)
        writer = BitWriter()
        for _ in range(start):
            writer.put(1, 1)
        self.assertIs(is_legal(blocks, start), False)
        self.assert_error(NotLegal, index, write_blocks, writer, blocks)
        self.assertEqual((writer.count(), writer.data()), (start, bytes_of("1" * start)))
        self.assertEqual(blocks, before)

    def test_what_was_read_is_legal(self):
        source = numbers(407)
        for _ in range(200):
            start = source.choice([0, source.randint(0, 20)])
            stream, blocks, end = some_stream(source, start)
            self.check_legal(read_blocks(stream, start)[0], start)

    def test_the_positions_play_no_part(self):
        source = numbers(4071)
        for _ in range(50):
            self.check_legal([block[:2] + (9, -1, 10 ** 9) + block[5:] for block in some_blocks(source)])
        self.assertIs(is_legal(SMALL), True)
        self.check_legal([SMALL[2]])

    def test_a_small_list_by_hand(self):
        writer = BitWriter()
        write_blocks(writer, SMALL)
        self.assertEqual(writer.data(), bytes_of(SMALL_BITS))
        self.assertEqual(writer.count(), 111)

    def test_start_counts_for_the_fill_bits(self):
        for start in range(20):
            for many in range(9):
                blocks = [(0, 1, 0, 0, 0, [5], [1] * many)]
                if many == -(start + 3) % 8:
                    self.check_legal(blocks, start)
                else:
                    self.check_not_legal(blocks, 0, start)

    def test_empty_and_marks(self):
        stored = (0, 0, 0, 0, 0, [], [0] * 5)
        fixed = (1, 0, 0, 0, 0, [], [])
        last = (1, 1, 0, 0, 0, [], [])
        self.check_not_legal([], 0)
        self.check_not_legal([stored], 1)
        self.check_not_legal([fixed, fixed], 2)
        self.check_not_legal([last, last], 0)
        self.check_not_legal([fixed, last, fixed], 1)
        self.check_not_legal([fixed, last, fixed, last], 1)
        self.check_legal([fixed, fixed, last])
        # The first block decides that is wrong in one way or the other.
        wrong = (1, 0, 0, 0, 0, [(256,)], [])
        self.check_not_legal([last, wrong, last], 0)
        self.check_not_legal([fixed, wrong, last, last], 1)
        self.check_not_legal([fixed, wrong], 1)

    def test_stored_blocks(self):
        self.check_legal([(0, 1, 0, 0, 0, [0] * 65535, [0] * 5)])
        self.check_not_legal([(0, 1, 0, 0, 0, [0] * 65536, [0] * 5)], 0)
        for fill in ([], [0] * 4, [0] * 6, [0] * 13, [0, 0, 0, 0, 2], [-1, 0, 0, 0, 0]):
            self.check_not_legal([(0, 1, 0, 0, 0, [], fill)], 0)

    def test_other_kinds(self):
        for kind in (3, 4, -1):
            self.check_not_legal([(kind, 1, 0, 0, 0, [], [])], 0)
        self.check_not_legal([(1, 1, 0, 0, 0, [], [0])], 0)

    def test_items_of_a_fixed_block(self):
        for item in [(256,), (257,), (285,), (-1,), (286,), (256, 0, 0, 0), (0, 0, 0, 0), (286, 0, 0, 0),
                     (287, 0, 0, 0), (257, 1, 0, 0), (264, 1, 0, 0), (265, 2, 0, 0), (265, -1, 0, 0),
                     (284, 32, 0, 0), (285, 1, 0, 0), (257, 0, 30, 0), (257, 0, 31, 0), (257, 0, -1, 0),
                     (257, 0, 0, 1), (257, 0, 3, 1), (257, 0, 4, 2), (257, 0, 4, -1),
                     (257, 0, 29, 8192)]:
            self.check_not_legal([SMALL[0], (1, 1, 0, 0, 0, [(5,), item], [])], 1)
        for item in [(255,), (0,), (265, 1, 0, 0), (284, 31, 0, 0), (285, 0, 29, 8191), (257, 0, 4, 1)]:
            self.check_legal([SMALL[0], (1, 1, 0, 0, 0, [(5,), item], [])])

    def test_items_without_a_code(self):
        low, rows = LOW
        self.check_legal([dynamic(257, 1, LOW, [])])
        for item in [(0,), (255,), (257, 0, 0, 0)]:
            self.check_not_legal([dynamic(257, 1, LOW, [item])], 0)
        both = [(18, 127), (18, 107), (1, 0), (1, 0), (0, 0)]
        self.check_not_legal([dynamic(258, 1, (low, both), [(257, 0, 0, 0)])], 0)
        self.check_not_legal([dynamic(258, 1, (low, both), [(258, 0, 0, 0)])], 0)
        one = both[:-1] + [(1, 0)]
        self.check_legal([dynamic(258, 1, (low, one), [(257, 0, 0, 0)] * 3)])
        self.check_not_legal([dynamic(258, 1, (low, one), [(257, 0, 1, 0)])], 0)

    def test_heads(self):
        low, rows = LOW
        zero = ZERO_ROWS
        for head in [
                (256, 1, low, zero + [(0, 0), (1, 0)]),
                (256, 2, low, zero + [(1, 0), (0, 0)]),
                (287, 1, low, zero + [(1, 0), (18, 19), (0, 0)]),
                (257, 0, low, zero + [(1, 0)]),
                (257, 31, low, zero + [(1, 0), (18, 20)]),
                (257, 1, low[:17], rows), (257, 1, [2, 2, 2], rows),
                (257, 1, low + [0, 0], rows), (257, 1, low[:-1] + [2], rows),
                (257, 1, [1] + low[1:], rows), (257, 1, low[:-1] + [8], rows),
                (257, 1, low[:-1] + [-1], rows),
                (257, 1, low, []), (257, 1, low, rows[:-1]), (257, 1, low, rows + [(0, 0)]),
                (257, 1, low, rows[:-1] + [(18, 0)]), (257, 2, low, rows), (258, 1, low, rows),
                (257, 1, low, [(18, 128), (18, 106)] + rows[2:]), (257, 1, low, [(18, -1)] + rows[1:]),
                (257, 1, low, zero + [(1, 1), (0, 0)]), (257, 1, low, zero + [(1, 0), (0, 1)]),
                (257, 1, low, zero + [(1, 0), (2, 0)]), (257, 1, low, zero + [(1, 0), (19, 0)]),
                (257, 1, low, zero + [(1, 0), (-1, 0)]),
                (257, 1, low, zero + [(0, 0), (1, 0)]), (257, 2, low, zero[:1] + [(18, 108), (1, 0), (0, 0)]),
                (258, 1, low, [(1, 0), (18, 127), (18, 106), (1, 0), (1, 0), (0, 0)]),
                # Letters that are complete, but without 256; and a row of a symbol without a code.
                (258, 1, low, [(1, 0), (18, 127), (18, 107), (1, 0), (0, 0)]),
                (257, 1, low, [(18, 127), (18, 104), (17, 0), (1, 0), (0, 0)]),
                (257, 3, low, zero + [(1, 0)] * 4)]:
            block = (2, 1, 0, 0, 0, [], head)
            self.check_not_legal([block], 0)
            self.check_not_legal([SMALL[0], block], 1)
        with_16 = [2, 0, 2, 2] + [0] * 13 + [2]
        self.check_not_legal([dynamic(257, 3, (with_16, [(16, 0), (18, 127), (18, 104), (1, 0), (0, 0),
                                                         (0, 0), (0, 0)]), [])], 0)
        self.check_legal([dynamic(257, 4, (with_16, zero + [(1, 0), (0, 0), (16, 0)]), [])])
        self.check_not_legal([dynamic(257, 4, (with_16, zero + [(1, 0), (0, 0), (16, 4)]), [])], 0)
        with_2 = [0, 0, 2, 2] + [0] * 11 + [2, 0, 2]
        self.check_not_legal([dynamic(257, 1, (with_2, zero + [(2, 0), (0, 0)]), [])], 0)
        self.check_not_legal([dynamic(257, 1, (with_2, zero + [(1, 0), (2, 0)]), [])], 0)

    def test_spoilt_lists(self):
        source = numbers(4072)
        found = [0, 0]
        for _ in range(600):
            blocks = some_blocks(source)
            index = source.randrange(len(blocks))
            blocks[index] = self.spoil(source, blocks[index])
            try:
                bits, in_place = placed(blocks)
                legal = plain_blocks(bytes_of(bits)) == (in_place, len(bits))
            except (BellowsError, KeyError, IndexError):
                legal = False
            found[legal] += 1
            if legal:
                self.check_legal(blocks)
            else:
                self.assertIs(is_legal(blocks), False)
                with self.assertRaises(NotLegal):
                    write_blocks(BitWriter(), blocks)
        self.assertGreater(min(found), 50)

    def spoil(self, source, block):
        """Change a thing in a block, in a way that leaves its numbers in the ranges of their fields."""
        kind, is_last, _, _, _, content, head = block
        if kind == 0:
            return (0, is_last, 0, 0, 0, content[:-1], head[source.randrange(2):])
        if kind == 2 and source.random() < 0.7:
            letters, distances, small, rows = head
            way = source.randrange(4)
            if way == 0:
                letters = min(286, letters + 1)
            elif way == 1:
                small = list(small)
                small[source.randrange(len(small))] = source.randrange(8)
            elif way == 2:
                rows = list(rows)
                del rows[source.randrange(len(rows))]
            else:
                rows = list(rows)
                rows.insert(source.randrange(len(rows)), source.choice(rows))
            return (2, is_last, 0, 0, 0, content, (letters, distances, small, rows))
        symbol = source.randrange(286)
        item = (symbol,) if symbol < 257 else (symbol, 0, source.randrange(30), 0)
        return (kind, is_last, 0, 0, 0, content + [item], head)

    def test_different_lists_are_stored_differently(self):
        source = numbers(4073)
        seen = {}
        for _ in range(400):
            blocks = some_blocks(source, most=2)
            bits, in_place = placed(blocks)
            self.assertEqual(seen.setdefault(bits, in_place), in_place)
        texts = sorted(seen)
        for first, second in zip(texts, texts[1:]):
            self.assertFalse(second.startswith(first))


class BlockTest(Case):
    def test_lengths(self):
        self.assertEqual(block_lengths(SMALL[0]), (FIXED_LETTERS, FIXED_DISTANCES))
        self.assertEqual([len(one) for one in block_lengths(SMALL[2])], [288, 32])
        source = numbers(4074)
        for _ in range(100):
            block, _ = some_block(source, 1, 0, 100, source.choice([1, 2]))
            self.assertEqual(block_lengths(block), tuple(map(list, plain_lengths(block))))
        block_lengths(SMALL[0])[0].append(1)
        block_lengths(SMALL[0])[1][0] = 7
        self.assertEqual(block_lengths(SMALL[0]), (FIXED_LETTERS, FIXED_DISTANCES))

    def test_tokens(self):
        self.assertEqual(block_tokens(SMALL[0]), [])
        self.assertEqual(block_tokens(SMALL[1]), [(1,), (2,), (255,)])
        self.assertEqual(block_tokens(SMALL[2]), [(97,), (6, 1), (144,)])
        source = numbers(4075)
        for _ in range(100):
            block, _ = some_block(source, 1, 0, 40000)
            if block[0]:
                self.assertEqual(block_tokens(block), [plain_token(item) for item in block[5]])
            else:
                self.assertEqual(block_tokens(block), [(byte,) for byte in block[5]])
        block = (1, 1, 0, 0, 0, [(284, 31, 0, 0), (285, 0, 1, 0)], [])
        self.assertEqual(block_tokens(block), [(258, 1), (258, 2)])
        self.assert_new_list(block_tokens, block)

    def test_items(self):
        self.assertEqual(items_of([]), [])
        self.assertEqual(items_of([(0,), (255,), (3, 1), (258, 32768), (257, 5)]),
                         [(0,), (255,), (257, 0, 0, 0), (285, 0, 29, 8191), (284, 30, 4, 0)])
        tokens = [(length, 1 + 7 * length) for length in range(3, 259)]
        tokens += [(3, distance) for distance in range(1, 32769, 5)]
        self.assertEqual(items_of(tokens), [plain_item(token) for token in tokens])
        self.assertEqual([plain_token(item) for item in items_of(tokens)], tokens)
        self.assert_new_list(items_of, [(1,), (3, 1)])


if __name__ == "__main__":
    unittest.main()
