"""Points 303 and 304, and bellows/copies/symbols.py."""

import unittest

from bellows.copies.symbols import distance_base, distance_parts, length_base, length_parts
from bellows.errors import OutOfRange
from checks import Case

# The published tables: for each symbol its extra bits and its first value.
LENGTHS = {
    257: (0, 3), 258: (0, 4), 259: (0, 5), 260: (0, 6), 261: (0, 7), 262: (0, 8), 263: (0, 9),
    264: (0, 10), 265: (1, 11), 266: (1, 13), 267: (1, 15), 268: (1, 17), 269: (2, 19),
    270: (2, 23), 271: (2, 27), 272: (2, 31), 273: (3, 35), 274: (3, 43), 275: (3, 51),
    276: (3, 59), 277: (4, 67), 278: (4, 83), 279: (4, 99), 280: (4, 115), 281: (5, 131),
    282: (5, 163), 283: (5, 195), 284: (5, 227), 285: (0, 258),
}
DISTANCES = {
    0: (0, 1), 1: (0, 2), 2: (0, 3), 3: (0, 4), 4: (1, 5), 5: (1, 7), 6: (2, 9), 7: (2, 13),
    8: (3, 17), 9: (3, 25), 10: (4, 33), 11: (4, 49), 12: (5, 65), 13: (5, 97), 14: (6, 129),
    15: (6, 193), 16: (7, 257), 17: (7, 385), 18: (8, 513), 19: (8, 769), 20: (9, 1025),
    21: (9, 1537), 22: (10, 2049), 23: (10, 3073), 24: (11, 4097), 25: (11, 6145),
    26: (12, 8193), 27: (12, 12289), 28: (13, 16385), 29: (13, 24577),
}


class SymbolsTest(Case):
    def test_the_examples_of_the_interface(self):
        self.assertEqual(length_parts(20), (269, 2, 1))
        self.assertEqual(distance_parts(100), (13, 5, 3))

    def test_the_bases_of_lengths(self):
        self.assertEqual({symbol: length_base(symbol) for symbol in range(257, 286)}, LENGTHS)

    def test_the_bases_of_distances(self):
        self.assertEqual({symbol: distance_base(symbol) for symbol in range(30)}, DISTANCES)

    def test_the_bases_as_the_document_words_them(self):
        for s in range(257, 265):
            self.assertEqual(length_base(s), (0, s - 254))
        for s in range(265, 285):
            e = (s - 261) // 4
            self.assertEqual(length_base(s), (e, 2 ** (e + 2) + (s - 265) % 4 * 2 ** e + 3))
        for d in range(4):
            self.assertEqual(distance_base(d), (0, d + 1))
        for d in range(4, 30):
            e = (d - 2) // 2
            self.assertEqual(distance_base(d), (e, 2 ** (e + 1) + d % 2 * 2 ** e + 1))

    def test_every_length_has_the_greatest_symbol_that_fits(self):
        for length in range(3, 259):
            symbol = max(s for s, (_, base) in LENGTHS.items() if base <= length)
            bits, base = LENGTHS[symbol]
            self.assertEqual(length_parts(length), (symbol, bits, length - base))
            self.assertLess(length - base, 2 ** bits)

    def test_every_distance_has_the_greatest_symbol_that_fits(self):
        for symbol, (bits, base) in DISTANCES.items():
            for distance in range(base, DISTANCES.get(symbol + 1, (0, 32769))[1]):
                self.assertEqual(distance_parts(distance), (symbol, bits, distance - base))
                self.assertLess(distance - base, 2 ** bits)

    def test_the_first_and_the_last_length_of_each_symbol(self):
        for symbol, (bits, base) in LENGTHS.items():
            self.assertEqual(length_parts(base), (symbol, bits, 0))
            last = 257 if symbol == 284 else base + 2 ** bits - 1
            self.assertEqual(length_parts(last), (symbol, bits, last - base))
        self.assertEqual(length_parts(257), (284, 5, 30))
        self.assertEqual(length_parts(258), (285, 0, 0))

    def test_the_first_and_the_last_distance_of_each_symbol(self):
        for symbol, (bits, base) in DISTANCES.items():
            self.assertEqual(distance_parts(base), (symbol, bits, 0))
            last = base + 2 ** bits - 1
            self.assertEqual(distance_parts(last), (symbol, bits, 2 ** bits - 1))
        self.assertEqual(distance_parts(32768), (29, 13, 8191))

    def test_numbers_out_of_range(self):
        for length in (-1, 0, 1, 2, 259, 260, -258, 2 ** 40):
            self.assert_error(OutOfRange, length, length_parts, length)
        for distance in (-1, 0, 32769, -32768, 2 ** 40):
            self.assert_error(OutOfRange, distance, distance_parts, distance)
        for symbol in (-1, 0, 255, 256, 286, 287, 2 ** 40, -257):
            self.assert_error(OutOfRange, symbol, length_base, symbol)
        for symbol in (-1, -4, 30, 31, 257, 2 ** 40):
            self.assert_error(OutOfRange, symbol, distance_base, symbol)

    def test_the_results_are_tuples(self):
        for result in (length_parts(3), distance_parts(1), length_base(285), distance_base(29)):
            self.assertIs(type(result), tuple)


if __name__ == "__main__":
    unittest.main()
