"""Points 501, 502 and 505, and bellows/deflate/blocks.py."""

import unittest

from bellows.base.bits import BitWriter
from bellows.codes.canon import is_complete
from bellows.codes.shortest import shortest
from bellows.copies.expand import expand, symbol_counts
from bellows.deflate.blocks import best_way, block_size, dynamic_lengths, write_block
from bellows.deflate.heads import head_of, head_size
from bellows.errors import OutOfRange
from bellows.inflate.grammar import block_lengths, block_tokens, read_blocks
from bellows.inflate.whole import inflate
from checks import Case, numbers, some_bytes
from streams import FIXED_DISTANCES, FIXED_LETTERS, block_bits, bytes_of, placed, plain_item


def some_tokens(source, size, copies=0.4):
    """Tokens that expand behind 40 bytes of a dictionary."""
    tokens = []
    made = 40
    values = source.choice([2, 20, 256])
    for _ in range(size):
        if source.random() < copies:
            token = (source.choice([3, 4, 10, 11, 258, source.randint(3, 258)]), source.randint(1, made))
        else:
            token = (source.randrange(values),)
        tokens.append(token)
        made += 1 if len(token) == 1 else token[0]
    return tokens


def plain_block(way, tokens, data, at, is_last):
    """The block that a way makes of the tokens, as a tuple of the grammar."""
    if way == 0:
        return (0, is_last, 0, 0, 0, list(data), [0] * (-(at + 3) % 8))
    items = [plain_item(token) for token in tokens]
    if way == 1:
        return (1, is_last, 0, 0, 0, items, [])
    letter_counts, distance_counts = symbol_counts(tokens)
    distances = shortest(distance_counts, 15) if any(distance_counts) else [1] + [0] * 29
    return (2, is_last, 0, 0, 0, items, head_of(shortest(letter_counts, 15), distances))


DICTIONARY = list(range(100, 140))


class BlockTest(Case):
    def check_block(self, way, tokens, data, at, is_last):
        before = list(tokens), list(data)
        bits = "".join(block_bits(plain_block(way, tokens, data, at, is_last)))
        size = block_size(way, tokens, data, at)
        self.assertEqual(size, len(bits))
        writer = BitWriter()
        for _ in range(at):
            writer.put(1, 1)
        self.assertIsNone(write_block(writer, way, tokens, data, is_last))
        self.assertEqual(writer.count(), at + size)
        self.assertEqual(writer.data(), bytes_of("1" * at + bits))
        self.assertEqual((tokens, data), before)
        return size

    def test_each_way_at_each_position_of_a_byte(self):
        source = numbers(501)
        for size in (0, 1, 2, 7, 40):
            tokens = some_tokens(source, size)
            data = expand(tokens, DICTIONARY)
            for at in list(range(9)) + [14, 23]:
                sizes = [self.check_block(way, tokens, data, at, is_last)
                         for way in (0, 1, 2) for is_last in (0, 1)]
                self.assertEqual(sizes[0::2], sizes[1::2])
                least = min(sizes)
                self.assertEqual(best_way(tokens, data, at), (sizes[0::2].index(least), least))

    def test_what_was_written_is_read_back(self):
        source = numbers(5011)
        for _ in range(40):
            writer = BitWriter()
            written = []
            data = []
            for k in range(4):
                tokens = some_tokens(source, source.choice([0, 1, 20]), source.choice([0, 0.5]))
                part = expand(tokens, DICTIONARY + data)
                way = source.randrange(3)
                write_block(writer, way, tokens, part, int(k == 3))
                written.append((way, tokens if way else [(byte,) for byte in part]))
                data += part
            blocks, end = read_blocks(writer.data())
            self.assertEqual(end, writer.count())
            self.assertEqual([(block[0], block_tokens(block)) for block in blocks], written)
            self.assertEqual(inflate(writer.data(), 0, DICTIONARY, 65536), (data, end))

    def test_sizes_by_hand(self):
        tokens = [(97,), (200,), (9, 1), (258, 5)]
        data = expand(tokens, DICTIONARY)
        self.assertEqual(block_size(1, tokens, data, 0), 3 + 8 + 9 + (7 + 5) + (8 + 5 + 1) + 7)
        self.assertEqual(block_size(1, tokens, data, 5), block_size(1, tokens, data, 0))
        self.assertEqual([block_size(0, [(1,)], [1], at) for at in range(9)],
                         [48, 47, 46, 45, 44, 43, 50, 49, 48])
        self.assertEqual([block_size(way, [], [], 0) for way in (0, 1)], [40, 10])
        # Nothing but the end: letters with one code, and one distance that is not used.
        self.assertEqual(block_size(2, [], [], 0), 3 + 14 + 54 + 16 + 2 + 1)

    def test_the_greatest_stored_block(self):
        data = [7] * 65535
        writer = BitWriter()
        write_block(writer, 0, [(7,)] * 65535, data, 1)
        self.assertEqual(writer.data()[:5], [1, 255, 255, 0, 0])
        self.assertEqual(writer.count(), 40 + 8 * 65535)
        self.assertEqual(block_size(0, [], data, 6), 3 + 7 + 32 + 8 * 65535)

    def test_ways_out_of_range(self):
        writer = BitWriter()
        writer.put(1, 3)
        for way in (-1, 3, 100):
            self.assert_error(OutOfRange, way, block_size, way, [(1,)], [1], 0)
            self.assert_error(OutOfRange, way, write_block, writer, way, [(1,)], [1], 1)
        self.assertEqual((writer.count(), writer.data()), (3, [1]))

    def test_the_best_way(self):
        source = numbers(505)
        self.assertEqual(best_way([], [], 0), (1, 10))
        noise = some_bytes(source, 300)
        self.assertEqual(best_way([(one,) for one in noise], noise, 0), (0, 40 + 2400))
        text = [source.choice([3, 3, 3, 250]) for _ in range(300)]
        self.assertEqual(best_way([(one,) for one in text], text, 3)[0], 2)
        self.assertEqual(best_way([(97,), (9, 1)], [97] * 10, 0), (1, 30))

    def test_of_several_best_ways_the_least_one_is_taken(self):
        # The sizes of a fixed block of literals from 144 on, and of a stored one, meet.
        found = set()
        for size in range(1, 60):
            data = [144 + k for k in range(size)]
            tokens = [(one,) for one in data]
            for at in range(8):
                sizes = [block_size(way, tokens, data, at) for way in (0, 1, 2)]
                self.assertEqual(best_way(tokens, data, at), (sizes.index(min(sizes)), min(sizes)))
                found.add(sizes[0] == sizes[1] == min(sizes))
        self.assertEqual(found, {True, False})


class LengthsTest(Case):
    def test_no_distance(self):
        for tokens in ([], [(5,)], [(5,), (5,), (6,)]):
            letters, distances = dynamic_lengths(tokens)
            self.assertEqual(distances, [1] + [0] * 29)
            self.assertEqual(letters, shortest(symbol_counts(tokens)[0], 15))
        self.assertEqual(dynamic_lengths([])[0], [0] * 256 + [1] + [0] * 29)

    def test_one_distance(self):
        for distance, symbol in ((1, 0), (5, 4), (32768, 29)):
            letters, distances = dynamic_lengths([(1,), (3, distance), (3, distance)])
            self.assertEqual(distances, [int(k == symbol) for k in range(30)])
            self.assertTrue(is_complete(letters))

    def test_all_distances(self):
        tokens = [(3, base) for base in [1, 2, 3, 4, 5, 7, 9, 13, 17, 25, 33, 49, 65, 97, 129, 193, 257, 385,
                                         513, 769, 1025, 1537, 2049, 3073, 4097, 6145, 8193, 12289, 16385,
                                         24577]]
        letters, distances = dynamic_lengths(tokens + [(3, 1)] * 50)
        self.assertEqual((len(letters), len(distances)), (286, 30))
        self.assertTrue(is_complete(distances))
        self.assertEqual(distances, shortest([51] + [1] * 29, 15))
        self.assertEqual(distances[0], 1)

    def test_lengths_are_those_of_the_counts(self):
        source = numbers(502)
        for _ in range(40):
            tokens = some_tokens(source, source.randint(0, 60))
            letter_counts, distance_counts = symbol_counts(tokens)
            letters, distances = dynamic_lengths(tokens)
            self.assertEqual(letters, shortest(letter_counts, 15))
            if any(distance_counts):
                self.assertEqual(distances, shortest(distance_counts, 15))
            writer = BitWriter()
            write_block(writer, 2, tokens, [], 1)
            block = read_blocks(writer.data())[0][0]
            head = head_of(letters, distances)
            self.assertEqual(block[6], head)
            self.assertEqual(block[3] - block[2], 3 + head_size(head))
            found = block_lengths(block)
            self.assertEqual((found[0] + [0] * 286)[:286], letters)
            self.assertEqual((found[1] + [0] * 30)[:30], distances)

    def test_new_lists(self):
        tokens = [(1,), (3, 1)]
        first = dynamic_lengths(tokens)
        expected = (list(first[0]), list(first[1]))
        first[0][0] = first[1][0] = 9
        self.assertEqual(dynamic_lengths(tokens), expected)
        self.assertIs(type(first), tuple)


class FixedTest(Case):
    def test_a_fixed_block_uses_the_fixed_codes(self):
        writer = BitWriter()
        write_block(writer, 1, [(0,), (255,), (3, 1)], [], 1)
        bits, _ = placed([(1, 1, 0, 0, 0, [(0,), (255,), (257, 0, 0, 0)], [])])
        self.assertEqual(writer.data(), bytes_of(bits))
        self.assertEqual(block_lengths(read_blocks(writer.data() + [0])[0][0]), (FIXED_LETTERS, FIXED_DISTANCES))


if __name__ == "__main__":
    unittest.main()
