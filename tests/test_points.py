"""Points 701 to 705 (with point 455), and bellows/ways/points.py."""

import itertools
import unittest
import zlib

from bellows.errors import (
    BadKind, BadStored, BellowsError, Extra, NotNow, OutOfRange, TooFar, TooMuch, Truncated,
)
from bellows.inflate.machine import Inflater
from bellows.ways.points import access_points, choose, outs, reach, read_at
from checks import Case, numbers, some_bytes
from streams import bytes_of, placed, plain_blocks, spoilt
from whole import (
    EMPTY_FIXED, fixed_block, inflated, plain_outs, some_whole, stored_block, whole_of,
)


def plain_reach(borders, index):
    """The reach, byte by byte."""
    most = 0
    for place in range(borders[-1]):
        last = [border for border in index if borders[border] <= place][-1]
        most = max(most, place - borders[last])
    return most


def all_indexes(borders, count):
    """All indexes of at most `count + 1` borders."""
    rest = range(1, len(borders) - 1)
    for size in range(min(count, len(rest)) + 1):
        for chosen in itertools.combinations(rest, size):
            yield [0] + list(chosen)


def plain_choice(borders, count):
    """The index of point 704, for the least reach of all indexes."""
    least = min(plain_reach(borders, index) for index in all_indexes(borders, count))
    last = len(borders) - 1
    index = [0]
    while borders[last] - borders[index[-1]] > least + 1:
        index.append(max(c for c in range(index[-1] + 1, last) if borders[c] <= borders[index[-1]] + least + 1))
    return index


def some_borders(source, many, greatest):
    sizes = [source.choice([0, 0, 1, source.randint(0, greatest)]) for _ in range(many)]
    return [sum(sizes[:k]) for k in range(many + 1)]


class OutsTest(Case):
    def test_by_hand(self):
        self.assertEqual(outs([3, 0]), [0, 0])
        self.assertEqual(outs([75, 132, 3, 0]), [0, 10])
        blocks = [EMPTY_FIXED, stored_block([1, 2]), EMPTY_FIXED, EMPTY_FIXED, stored_block([]),
                  fixed_block([(1,), (257, 0, 0, 0)]), (1, 1, 0, 0, 0, [], [])]
        self.assertEqual(outs(whole_of(numbers(1), blocks)), [0, 0, 2, 2, 2, 2, 6, 6])

    def test_any_streams(self):
        source = numbers(702)
        for _ in range(60):
            stream = some_whole(source)
            before = list(stream)
            found = outs(stream)
            self.assertEqual(found, plain_outs(stream))
            self.assertEqual(found[-1], len(inflated(stream)))
            self.assertEqual(len(found), len(plain_blocks(stream)[0]) + 1)
            self.assertEqual(stream, before)
        self.assert_new_list(outs, [75, 132, 3, 0])

    def test_errors_of_the_stream(self):
        for function in (outs, lambda stream: access_points(stream, 3)):
            self.assert_error(Truncated, 0, function, [])
            self.assert_error(Truncated, 8, function, [3])
            self.assert_error(BadKind, 1, function, [7, 0])
            self.assert_error(BadStored, 24, function, [1, 5, 0, 0, 0])
            for more in ([0], [1, 2, 3]):
                self.assert_error(Extra, 16, function, [3, 0] + more)
                # A stream that ends with its last byte, bit by bit.
                self.assert_error(Extra, 40, function, [1, 0, 0, 255, 255] + more)
            # No dictionary stands before a stream.
            self.assert_error(TooFar, 11, function, bytes_of(placed([fixed_block([(1,), (257, 0, 1, 0)], 1)])[0]))
            # The errors of part 4 come before `Extra`.
            self.assert_error(BadKind, 1, function, [7, 0, 0, 0, 0])

    def test_any_bits_behind_the_end(self):
        for value in range(64):
            self.assertEqual(outs([3, value * 4]), [0, 0])

    def test_the_limit(self):
        blocks = [stored_block([1] * 65535), fixed_block([(1,)], 1)]
        self.assertEqual(outs(whole_of(numbers(1), blocks)), [0, 65535, 65536])
        blocks = [stored_block([1] * 65535), fixed_block([(1,), (2,)], 1)]
        at = 8 * 65540 + 3 + 8
        for function in (outs, lambda stream: access_points(stream, 1)):
            self.assert_error(TooMuch, at, function, whole_of(numbers(1), blocks))


class ReachTest(Case):
    def test_by_hand(self):
        self.assertEqual(reach([0, 10], [0]), 9)
        self.assertEqual(reach([0, 4, 10], [0]), 9)
        self.assertEqual(reach([0, 4, 10], [0, 1]), 5)
        self.assertEqual(reach([0, 6, 10], [0, 1]), 5)
        self.assertEqual(reach([0, 0, 0], [0]), 0)
        self.assertEqual(reach([0, 0, 1], [0, 1]), 0)
        # The last one of equal borders counts.
        self.assertEqual(reach([0, 5, 5, 5, 7], [0, 1, 3]), 4)

    def test_against_a_plain_search(self):
        source = numbers(703)
        for _ in range(300):
            borders = some_borders(source, source.randint(1, 7), 9)
            for index in all_indexes(borders, 7):
                before = list(borders), list(index)
                self.assertEqual(reach(borders, index), plain_reach(borders, index))
                self.assertEqual((borders, index), before)

    def test_lists_that_are_no_index(self):
        for index in ([], [1], [1, 2], [-1], [0, 0], [0, 3], [0, 4], [0, 2, 1], [0, 1, 1], [0, 1, 2, 3],
                      [0, -1], [0, -2], [0, 1, 0], [3], [0, 2 ** 40]):
            self.assert_error(OutOfRange, 0, reach, [0, 4, 5, 10], index)
            self.assert_error(OutOfRange, 0, reach, [0, 0, 0, 0], index)
        for index in ([0, 1], [1]):
            self.assert_error(OutOfRange, 0, reach, [0, 4], index)
        for index in ([0], [0, 1], [0, 2], [0, 1, 2]):
            reach([0, 4, 5, 10], index)


class ChooseTest(Case):
    def test_by_hand(self):
        borders = [0, 10, 20, 30, 40]
        self.assertEqual(choose(borders, 0), [0])
        self.assertEqual(choose(borders, 1), [0, 2])
        self.assertEqual(choose(borders, 2), [0, 2])
        self.assertEqual(choose(borders, 3), [0, 1, 2, 3])
        self.assertEqual(choose(borders, 2 ** 32 - 1), [0, 1, 2, 3])
        self.assertEqual(choose([0, 0, 0], 5), [0])
        self.assertEqual(choose([0, 0, 1], 5), [0])
        # The last one of equal borders, so that less must be read.
        self.assertEqual(choose([0, 5, 5, 5, 7], 1), [0, 3])
        self.assertEqual(choose([0, 0, 0, 5, 10], 1), [0, 3])

    def test_against_a_plain_search_of_all_indexes(self):
        source = numbers(704)
        for _ in range(250):
            borders = some_borders(source, source.randint(1, 8), source.choice([1, 3, 20]))
            for count in range(len(borders) + 1):
                before = list(borders)
                found = choose(borders, count)
                self.assertEqual(found, plain_choice(borders, count))
                self.assertEqual(borders, before)
                least = min(reach(borders, index) for index in all_indexes(borders, count))
                self.assertEqual(reach(borders, found), least)
                of_this_reach = [index for index in all_indexes(borders, count) if reach(borders, index) == least]
                self.assertEqual(len(found), min(map(len, of_this_reach)))
        self.assert_new_list(choose, [0, 10, 20], 3)

    def test_many_blocks(self):
        borders = list(range(0, 60001, 6))
        self.assertEqual(choose(borders, 0), [0])
        self.assertEqual(choose(borders, 9), list(range(0, 10000, 1000)))
        self.assertEqual(len(choose(borders, 20000)), 10000)


class AccessPointsTest(Case):
    def test_the_states_are_those_of_a_decoder(self):
        source = numbers(705)
        for _ in range(40):
            stream = some_whole(source, 0, 6)
            data = inflated(stream)
            borders = plain_outs(stream)
            starts = [block[2] for block in plain_blocks(stream)[0]]
            states = {}
            decoder = Inflater(limit=65536)
            # A border that is passed within one call is not seen, so the parts are bytes and the rooms 1.
            for byte in stream:
                decoder.feed([byte], 0)
                more = True
                while more:
                    try:
                        states[decoder.position()] = decoder.state()
                    except NotNow:
                        pass
                    more = decoder.feed([], 1)
            for count in (0, 1, 2, 10):
                points = access_points(stream, count)
                chosen = choose(borders, count)
                self.assertEqual([point[0] for point in points], [starts[border] for border in chosen])
                for border, point in zip(chosen, points):
                    before = data[:borders[border]]
                    self.assertEqual(point, (starts[border], len(before), before[-32768:],
                                             zlib.adler32(bytes(before)), zlib.crc32(bytes(before))))
                    if point[0] in states:
                        self.assertEqual(point, states[point[0]])

    def test_the_tail_has_at_most_32768_bytes(self):
        data = [k % 251 for k in range(40000)]
        stream = whole_of(numbers(1), [stored_block(data), fixed_block([(7,)] * 3, 1)])
        self.assertEqual([len(point[2]) for point in access_points(stream, 1)], [0, 32768])
        self.assertEqual(access_points(stream, 1)[1][2], data[-32768:])

    def test_new_lists(self):
        stream = whole_of(numbers(1), [stored_block([1, 2]), fixed_block([(7,)] * 3, 1)])
        self.assert_new_list(access_points, stream, 1)
        first = access_points(stream, 1)
        first[1][2].append(3)
        self.assertEqual(access_points(stream, 1)[1][2], [1, 2])


class ReadAtTest(Case):
    def test_every_start_and_count(self):
        source = numbers(7051)
        for _ in range(8):
            stream = some_whole(source, 0, 4)
            while not 5 < len(inflated(stream)) < 40:
                stream = some_whole(source, 0, 4)
            data = inflated(stream)
            for many in (0, 1, 10):
                points = access_points(stream, many)
                for start in range(len(data) + 3):
                    used = [point for point in points if point[1] <= start][-1]
                    # What stands before the point, in whole bytes, may have any values.
                    first = used[0] // 8
                    changed = some_bytes(source, first) + stream[first:]
                    low = used[0] % 8
                    if low and first < len(stream):
                        changed[first] ^= source.randrange(1 << low)
                    for count in range(len(data) + 3 - start):
                        before = list(changed), list(points)
                        self.assertEqual(read_at(changed, points, start, count), data[start:start + count])
                        self.assertEqual((changed, points), before)
                self.assertEqual(read_at(stream, points, 0, 2 ** 32 - 1), data)
                self.assertEqual(read_at(stream, points, 2 ** 32 - 1, 2 ** 32 - 1), [])

    def test_only_as_much_as_is_needed_is_decoded(self):
        stream = whole_of(numbers(1), [stored_block([1, 2, 3, 4]), fixed_block([(7,)] * 3, 1)])
        points = access_points(stream, 1)
        self.assertEqual([point[1] for point in points], [0, 4])
        self.assertEqual(read_at(stream[:8], points, 0, 3), [1, 2, 3])
        self.assertEqual(read_at(stream[:9] + [7, 7], points, 1, 3), [2, 3, 4])
        self.assertEqual(read_at(stream[:11], points, 4, 1), [7])
        self.assertEqual(read_at([], points, 3, 0), [])
        self.assertEqual(read_at([7] * 20, points, 9, 0), [])

    def test_errors_in_what_is_needed(self):
        stream = whole_of(numbers(1), [stored_block([1, 2, 3, 4]), fixed_block([(7,)] * 3, 1)])
        points = access_points(stream, 1)
        self.assert_error(BadKind, 73, read_at, stream[:9] + [7, 7], points, 3, 2)
        self.assert_error(BadKind, 73, read_at, stream[:9] + [7, 7], points, 5, 1)
        self.assert_error(Truncated, 64, read_at, stream[:8], points, 1, 3)

    def test_out_of_range(self):
        stream = [75, 132, 3, 0]
        points = access_points(stream, 0)
        for start, count in [(-1, 0), (-1, 5), (0, -1), (3, -1), (-1, -1), (-2 ** 40, 1), (20, -1)]:
            self.assert_error(OutOfRange, 0, read_at, stream, points, start, count)
            # Nothing is decoded before.
            self.assert_error(OutOfRange, 0, read_at, [7], points, start, count)

    def test_the_last_point_that_is_not_behind_the_start(self):
        stream = whole_of(numbers(1), [stored_block([1, 2]), stored_block([3, 4]), stored_block([5], 1)])
        points = access_points(stream, 9)
        self.assertEqual([point[1] for point in points], [0, 2, 4])
        for start, first in [(0, 0), (1, 0), (2, 56), (3, 56), (4, 112), (5, 112)]:
            changed = [255] * (first // 8) + stream[first // 8:]
            self.assertEqual(read_at(changed, points, start, 2), [1, 2, 3, 4, 5][start:start + 2])
            for other in [point for point in points if point[0] < first]:
                if start < 5:
                    with self.assertRaises(BellowsError):
                        read_at(changed, [other], start, 2)

    def test_new_lists(self):
        stream = [75, 132, 3, 0]
        self.assert_new_list(read_at, stream, access_points(stream, 0), 2, 3)

    def test_damaged_streams_raise_or_give_bytes(self):
        source = numbers(7052)
        for _ in range(60):
            stream = some_whole(source, 0, 3)
            points = access_points(stream, 2)
            damaged = spoilt(source, stream)
            try:
                found = read_at(damaged, points, 0, 65536)
            except BellowsError:
                continue
            self.assertEqual(found, inflated(damaged))


if __name__ == "__main__":
    unittest.main()
