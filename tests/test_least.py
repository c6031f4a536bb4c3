"""Points 509 and 510, and bellows/deflate/least.py."""

import unittest
import zlib

from bellows.codes.shortest import shortest
from bellows.copies.expand import expand, symbol_counts
from bellows.copies.parse import parse
from bellows.deflate.blocks import block_size
from bellows.deflate.borders import least_division
from bellows.deflate.least import deflate_least, plan_least
from bellows.errors import OutOfRange
from bellows.inflate.grammar import block_tokens, read_blocks
from bellows.inflate.whole import inflate
from checks import Case, numbers, some_bytes
from streams import FIXED_DISTANCES, FIXED_LETTERS


def lengths_for(tokens):
    return tuple(shortest([count + 1 for count in counts], 15) for counts in symbol_counts(tokens))


def size_of(division, tokens, data, at=0):
    """The number of bits of the blocks of a division."""
    end = at
    first = start = 0
    for place, way in division:
        part = tokens[first:place]
        size = sum(1 if len(token) == 1 else token[0] for token in part)
        end += block_size(way, part, data[start:start + size], end)
        start += size
        first = place
    return end - at


class PlainPlan:
    """Point 509, word by word."""

    def __init__(self, data, dictionary, rounds, passes, grain, window):
        self.data = data
        self.pieces = [(data[k:k + grain], list(dictionary) + data[:k]) for k in range(0, len(data), grain)]
        self.window = window
        self.chosen = set()
        self.divide([self.best_list(piece, rounds) for piece in self.pieces])
        self.taken = 0
        for _ in range(passes):
            before = self.tokens, self.places, self.division
            size = size_of(self.division, self.tokens, data)
            self.divide([self.parsed(piece, lengths_for(self.block_of(k)))
                         for k, piece in enumerate(self.pieces)])
            if size_of(self.division, self.tokens, data) >= size:
                self.tokens, self.places, self.division = before
                break
            self.taken += 1

    def parsed(self, piece, lengths):
        return parse(piece[0], piece[1], lengths[0], lengths[1], self.window)[0]

    def best_list(self, piece, rounds):
        lists = [self.parsed(piece, (FIXED_LETTERS[:286], FIXED_DISTANCES[:30]))]
        for _ in range(rounds):
            lists.append(self.parsed(piece, lengths_for(lists[-1])))
        sizes = [min(block_size(way, tokens, piece[0], 0) for way in (1, 2)) for tokens in lists]
        self.chosen.add(sizes.index(min(sizes)))
        return lists[sizes.index(min(sizes))]

    def divide(self, lists):
        self.tokens = [token for tokens in lists for token in tokens]
        self.places = [sum(map(len, lists[:k + 1])) for k in range(len(lists))] or [0]
        self.division = least_division(self.tokens, self.data, self.places, 0)

    def block_of(self, index):
        """The tokens of the block that contains a piece."""
        borders = [0] + [place for place, _ in self.division]
        first = max(border for border in borders if border <= ([0] + self.places)[index])
        return self.tokens[first:min(border for border in borders if border > first)]


def some_text(source, size):
    """Words from a few vocabularies, one after the other."""
    data = []
    while len(data) < size:
        letters = source.choice(["etaoinshrdlu", "ETAOINSHRDLU", "0123456789", "aeiouxyz"])
        words = ["".join(source.choice(letters) for _ in range(source.choice([2, 3, 5, 7]))) for _ in range(30)]
        for _ in range(source.choice([10, 60, 120])):
            word = source.choice(words[:source.choice([5, 20, 30])])
            data += list((word + source.choice([" ", " ", ", ", ". "])).encode())
    return data[:size]


def some_data(source, size):
    """Data whose parts ask for different codes, with repetitions."""
    if source.random() < 0.6:
        return some_text(source, size)
    data = []
    while len(data) < size:
        values = source.choice([[1, 2, 3], list(range(97, 123)), list(range(256)), [0]])
        for _ in range(source.choice([5, 30, 120])):
            if len(data) > 10 and source.random() < 0.1:
                start = source.randrange(len(data) - 5)
                data += data[start:start + source.randint(3, 20)]
            else:
                data.append(source.choice(values))
    return data[:size]


OPTIONS = [
    {}, {"rounds": 0, "passes": 0}, {"rounds": 8, "passes": 8, "grain": 100}, {"grain": 4096},
    {"grain": 50, "passes": 3}, {"window": 1}, {"window": 32768, "grain": 30, "rounds": 1},
    {"window": 7, "passes": 2, "grain": 64}, {"rounds": 0, "passes": 8, "grain": 40},
]


class PlanTest(Case):
    def test_is_that_of_the_point(self):
        source = numbers(509)
        chosen = set()
        taken = set()
        for k in range(36):
            data = some_data(source, source.choice([1, 100, 400, 700]))
            dictionary = some_data(source, source.choice([0, 0, 60]))
            options = OPTIONS[k % len(OPTIONS)]
            plain = PlainPlan(data, dictionary, options.get("rounds", 3), options.get("passes", 1),
                              options.get("grain", 1024), options.get("window", 32768))
            before = list(data), list(dictionary)
            found = plan_least(data, dictionary, **options)
            self.assertEqual(found, (plain.tokens, plain.places, plain.division))
            self.assertEqual((data, dictionary), before)
            self.assertEqual([type(one) for one in found], [list] * 3)
            self.check_stream(deflate_least(data, dictionary, **options), found, data, dictionary)
            chosen |= plain.chosen
            taken.add(plain.taken)
        # The first list, later ones, and passes that pay and do not, are all met.
        self.assertGreaterEqual(chosen, {0, 1, 2})
        self.assertGreaterEqual(taken, {0, 1, 2})

    def test_the_best_of_all_rounds(self):
        # Later lists are longer than the best one, or as long with other tokens.
        for seed in (194, 225, 233, 237, 253, 258):
            source = numbers(seed)
            data = some_text(source, source.choice([60, 150, 300]))
            plan = PlainPlan(data, [], 0, 0, 4096, 32768)
            lists = [plan.tokens]
            for _ in range(4):
                lists.append(plan.parsed(plan.pieces[0], lengths_for(lists[-1])))
            sizes = [min(block_size(way, tokens, data, 0) for way in (1, 2)) for tokens in lists]
            best = sizes.index(min(sizes))
            self.assertIn(best, (1, 2))
            self.assertNotEqual(lists[best], lists[4])
            self.assertLess(sizes[4], sizes[0])
            self.assertEqual(plan_least(data, rounds=4, passes=0)[0], lists[best])

    def test_passes_over_several_blocks(self):
        source = numbers(5092)
        taken = 0
        for k in range(14):
            data = []
            for letters in source.sample(["etaoinshrdlu", "ETAOINSHRDLU", "0123456789", "<>/='"], 3):
                words = ["".join(source.choice(letters) for _ in range(source.choice([2, 3, 5])))
                         for _ in range(60)]
                data += list(" ".join(source.choice(words) for _ in range(90)).encode())
            if k % 2:
                data = some_bytes(source, 100) + data
            grain = source.choice([100, 150, 300])
            rounds = source.choice([1, 3])
            plain = PlainPlan(data, [], rounds, 4, grain, 32768)
            found = plan_least(data, rounds=rounds, passes=4, grain=grain)
            self.assertEqual(found, (plain.tokens, plain.places, plain.division))
            taken += plain.taken > 0 and len(plain.division) > 2
        self.assertGreater(taken, 3)

    def test_the_stream_begins_at_position_0(self):
        # There a stored block takes 40 bits before its bytes, and a fixed one ten for all its nine.
        for size in range(25, 36):
            data = [144 + 37 * k % 112 for k in range(size)]
            self.assertEqual(plan_least(data)[2], [(size, 0 if size >= 30 else 1)])

    def test_the_defaults(self):
        source = numbers(5093)
        data = some_text(source, 1500)
        expected = plan_least(data, [], rounds=3, passes=1, grain=1024, window=32768)
        self.assertEqual(plan_least(data), expected)
        self.assertEqual(deflate_least(data), deflate_least(data, (), rounds=3, passes=1, grain=1024))

    def check_stream(self, stream, plan, data, dictionary):
        tokens, places, division = plan
        self.assertEqual(expand(tokens, dictionary), data)
        blocks, end = read_blocks(stream)
        self.assertEqual(end, size_of(division, tokens, data))
        self.assertEqual(len(stream), (end + 7) // 8)
        self.assertEqual([block[0] for block in blocks], [way for _, way in division])
        self.assertEqual([block[1] for block in blocks], [0] * (len(blocks) - 1) + [1])
        first = 0
        for block, (place, way) in zip(blocks, division):
            if way:
                self.assertEqual(block_tokens(block), tokens[first:place])
            else:
                self.assertEqual(block[6], [0] * len(block[6]))
            first = place
        self.assertEqual(inflate(stream, 0, dictionary, 65536), (data, end))
        if end % 8:
            self.assertEqual(stream[-1] >> end % 8, 0)

    def test_no_data(self):
        for options in OPTIONS:
            for dictionary in ([], [1, 2, 3]):
                self.assertEqual(plan_least([], dictionary, **options), ([], [0], [(0, 1)]))
                self.assertEqual(deflate_least([], dictionary, **options), [3, 0])

    def test_small_pieces(self):
        # Each piece of one byte is a literal, however often it occurs before.
        data = [5, 5, 5, 5, 5, 6]
        tokens, places, division = plan_least(data, grain=1)
        self.assertEqual(tokens, [(one,) for one in data])
        self.assertEqual(places, [1, 2, 3, 4, 5, 6])
        self.assertEqual(division, [(6, 1)])
        self.assertEqual(plan_least(data, grain=5)[:2], ([(5,), (4, 1), (6,)], [2, 3]))

    def test_the_window_and_the_dictionary(self):
        data = [1, 2, 3, 4, 5, 6, 7, 8]
        self.assertEqual(plan_least(data, data)[0], [(8, 8)])
        self.assertEqual(plan_least(data, data, window=8)[0], [(8, 8)])
        self.assertEqual(plan_least(data, data, window=7)[0], [(one,) for one in data])
        # Pieces copy from those before them.
        self.assertEqual(plan_least(data + data, grain=8)[0], [(one,) for one in data] + [(8, 8)])
        self.assertEqual(plan_least(data + data, grain=8, window=7)[0], [(one,) for one in data + data])

    def test_a_stored_block(self):
        data = list(range(256))
        tokens, places, division = plan_least(data)
        self.assertEqual(division, [(256, 0)])
        self.assertEqual(deflate_least(data), [1, 0, 1, 255, 254] + data)

    def test_blocks_of_all_ways(self):
        source = numbers(5091)
        noise = some_bytes(source, 300)
        data = [7] * 600 + noise + [1, 2, 3] * 200
        options = {"grain": 50, "window": 250}
        tokens, places, division = plan_least(data, **options)
        self.assertEqual([way for _, way in division][:3], [2, 0, 2])
        self.check_stream(deflate_least(data, **options), (tokens, places, division), data, [])

    def test_new_lists(self):
        first = plan_least([1, 2, 3])
        for one in first:
            one.append(9)
        self.assertEqual(plan_least([1, 2, 3]), ([(1,), (2,), (3,)], [3], [(3, 1)]))
        self.assert_new_list(deflate_least, [1, 2, 3])


class PromiseTest(Case):
    def test_reading_gives_the_data(self):
        source = numbers(510)
        for size, dictionary in ((1, []), (1, [7] * 5), (500, some_text(source, 300)), (4096, [])):
            for data in (some_text(source, size), some_bytes(source, size), [0] * size):
                for options in ({}, {"grain": 4096, "rounds": 1}, {"grain": 700, "passes": 0}):
                    stream = deflate_least(data, dictionary, **options)
                    found, end = inflate(stream, 0, dictionary)
                    self.assertEqual(found, data)
                    self.assertTrue(0 <= 8 * len(stream) - end < 8)
                    self.assertLessEqual(len(stream), len(data) + 5)
                    if not dictionary:
                        self.assertEqual(list(zlib.decompress(bytes(stream), -15)), data)

    def test_never_longer_with_more_passes(self):
        source = numbers(5101)
        shorter = 0
        for _ in range(8):
            data = some_text(source, 500)
            rounds = source.choice([0, 2])
            sizes = []
            for passes in (0, 1, 2, 3, 8):
                options = {"passes": passes, "grain": 90, "rounds": rounds}
                tokens, _, division = plan_least(data, **options)
                sizes.append(size_of(division, tokens, data))
                self.assertEqual(len(deflate_least(data, **options)), (sizes[-1] + 7) // 8)
            self.assertEqual(sizes, sorted(sizes, reverse=True))
            shorter += sizes[-1] < sizes[0]
        self.assertGreater(shorter, 3)

    def test_it_is_short(self):
        data = list(b"she sells sea shells by the sea shore, " * 8 + b"and so she does; " * 5)
        stream = deflate_least(data)
        self.assertLessEqual(len(stream), len(zlib.compress(bytes(data), 9)) - 6)


class OptionTest(Case):
    def test_out_of_range(self):
        for function in (deflate_least, plan_least):
            for rounds in (-1, 9):
                self.assert_error(OutOfRange, 0, function, [1], [], rounds=rounds, passes=9, grain=0, window=0)
            for passes in (-1, 9):
                self.assert_error(OutOfRange, 1, function, [1], [], rounds=8, passes=passes, grain=0, window=0)
            for grain in (-1, 0, 4097):
                self.assert_error(OutOfRange, 2, function, [1], [], rounds=0, passes=8, grain=grain, window=0)
            for window in (-1, 0, 32769):
                self.assert_error(OutOfRange, 3, function, [], [], rounds=0, passes=0, grain=1, window=window)
                self.assert_error(OutOfRange, 3, function, [], [], rounds=0, passes=0, grain=4096, window=window)

    def test_in_range(self):
        for rounds in (0, 8):
            for passes in (0, 8):
                for grain in (1, 4096):
                    for window in (1, 32768):
                        stream = deflate_least([1, 2, 1, 2, 1, 2], [1], rounds=rounds, passes=passes,
                                               grain=grain, window=window)
                        self.assertEqual(inflate(stream, 0, [1])[0], [1, 2, 1, 2, 1, 2])


if __name__ == "__main__":
    unittest.main()
