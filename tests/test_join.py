"""Points 701, 702 and 706 to 710, and bellows/ways/join.py."""

import gzip
import unittest
import zlib

from bellows.errors import (
    BadKind, BellowsError, Extra, NeedsDictionary, NotIndependent, OutOfRange, TooFar, TooMuch, Truncated,
    WrongHeader, WrongLength, WrongMagic, WrongMethod, WrongSum, WrongWindow,
)
from bellows.inflate.whole import inflate
from bellows.ways.join import cut, gzip_merge, independent, join, zlib_join
from bellows.wraps.gzips import gzip_read
from bellows.wraps.zlibs import zlib_whole
from checks import Case, numbers, some_bytes
from streams import bytes_of, placed, plain_blocks
from texts import deflated, highest_first, lowest_first, member_of, plain_header, plain_member, zlib_head, zlib_text
from whole import (
    bits_of, fixed_block, inflated, parts_of, plain_outs, put_placed, shifted, some_whole, stored_block,
    token_size, whole_of,
)

EMPTY = [3, 0]
PLAIN = (False, 0, 0, 255, None, None, None, False)


def plain_join(first, second):
    """Point 707, bit by bit."""
    blocks, end = plain_blocks(first)
    bits = bits_of(first, end)
    last = blocks[-1][2]
    return bytes_of(put_placed(bits[:last] + "0" + bits[last + 1:], parts_of(second)[0]))


def plain_first_reaching(stream, start, stop):
    parts = parts_of(stream)[0]
    made = 0
    for number in range(start, stop):
        for token in parts[number][2]:
            if len(token) == 2 and token[1] > made:
                return number
            made += token_size(token)
    return None


class JoinTest(Case):
    def test_by_hand(self):
        # An empty fixed block is 1, 1, 0 and seven zeros.
        self.assertEqual(join(EMPTY, EMPTY), bytes_of("0100000000" + "1100000000"))
        self.assertEqual(join(EMPTY, [1, 0, 0, 255, 255]), bytes_of("0100000000" + "100000") + [0, 0, 255, 255])
        self.assertEqual(join([1, 0, 0, 255, 255], EMPTY), [0, 0, 0, 255, 255, 3, 0])
        # The fill bits of the first stream are unchanged, those of the second one become zeros.
        self.assertEqual(join([249, 0, 0, 255, 255], [249, 0, 0, 255, 255]),
                         [248, 0, 0, 255, 255, 1, 0, 0, 255, 255])

    def test_any_streams(self):
        source = numbers(707)
        for _ in range(100):
            first, second = some_whole(source, 0, 3), some_whole(source, 0, 3)
            before = list(first), list(second)
            found = join(first, second)
            self.assertEqual(found, plain_join(first, second))
            self.assertEqual(inflated(found), inflated(first) + inflated(second))
            self.assertEqual((first, second), before)
            self.assertEqual(join(first, second, leaning=True), found)
            self.assertEqual(join(first, second, leaning=False), found)
        self.assert_new_list(join, EMPTY, EMPTY)

    def test_stored_blocks_at_each_bit_of_a_byte(self):
        source = numbers(7071)
        for bit in range(8):
            for other in range(8):
                block = shifted(source, bit)
                first = whole_of(source, [block[:1] + (1,) + block[2:]])
                for _ in range(4):
                    more = [stored_block([1, 2, 3]), shifted(source, other), stored_block([]), stored_block([4], 1)]
                    second = whole_of(source, more)
                    found = join(first, second)
                    self.assertEqual(found, plain_join(first, second))
                    self.assertEqual(inflated(found), inflated(first) + inflated(second))
                    self.assertEqual(join(second, first), plain_join(second, first))

    def test_any_bits_behind_the_end(self):
        for value in range(64):
            self.assertEqual(join([3, value * 4], EMPTY), join(EMPTY, EMPTY))
            self.assertEqual(join(EMPTY, [3, value * 4]), join(EMPTY, EMPTY))

    def test_it_is_associative(self):
        source = numbers(708)
        for _ in range(60):
            a, b, c = (some_whole(source, 0, 2) for _ in range(3))
            self.assertEqual(join(join(a, b), c), join(a, join(b, c)))
            self.assertEqual(inflated(join(a, join(b, c))), inflated(a) + inflated(b) + inflated(c))

    def test_leaning(self):
        source = numbers(7072)
        for _ in range(60):
            first = some_whole(source, 0, 2)
            data = inflated(first)
            second = some_whole(source, len(data), 3)
            found = join(first, second, leaning=True)
            self.assertEqual(found, plain_join(first, second))
            self.assertEqual(inflated(found), data + inflated(second, data))
        first = whole_of(source, [stored_block([1, 2, 3], 1)])
        second = bytes_of(placed([fixed_block([(257, 0, 2, 0)], 1)])[0])
        self.assertEqual(inflated(join(first, second, leaning=True)), [1, 2, 3, 1, 2, 3])
        self.assert_error(TooFar, 3, join, first, second)
        self.assert_error(TooFar, 3, join, first, second, leaning=False)
        farther = bytes_of(placed([fixed_block([(257, 0, 3, 0)], 1)])[0])
        self.assert_error(TooFar, 3, join, first, farther, leaning=True)
        self.assert_error(TooFar, 3, join, second, first, leaning=True)

    def test_the_errors_and_their_order(self):
        wrong = [([], Truncated, 0), ([3], Truncated, 8), ([7, 0], BadKind, 1), ([3, 0, 0], Extra, 16)]
        for first, error, at in wrong:
            for second in [EMPTY] + [one[0] for one in wrong]:
                self.assert_error(error, at, join, first, second)
                self.assert_error(error, at, join, first, second, leaning=True)
            # The positions of the second stream count from its own start.
            self.assert_error(error, at, join, [1, 3, 0, 252, 255, 1, 2, 3], first)

    def test_the_limit_is_for_each_stream_by_itself(self):
        full = whole_of(numbers(1), [stored_block([1] * 65535), fixed_block([(2,)], 1)])
        more = whole_of(numbers(1), [stored_block([1] * 65535), fixed_block([(2,), (3,)], 1)])
        for leaning in (False, True):
            self.assertEqual(inflated(join(full, full, leaning=leaning)), inflated(full) * 2)
            self.assert_error(TooMuch, 8 * 65540 + 11, join, more, full, leaning=leaning)
            self.assert_error(TooMuch, 8 * 65540 + 11, join, full, more, leaning=leaning)


class CutTest(Case):
    def test_all_pairs_of_borders(self):
        source = numbers(709)
        for _ in range(60):
            stream = some_whole(source, 0, 3)
            parts, _ = parts_of(stream)
            borders = plain_outs(stream)
            data = inflated(stream)
            for start in range(len(parts) + 1):
                for stop in range(start, len(parts) + 1):
                    before = list(stream)
                    reaching = plain_first_reaching(stream, start, stop)
                    self.assertIs(independent(stream, start, stop), reaching is None)
                    if start == stop:
                        self.assertEqual(cut(stream, start, stop), [3, 0])
                    elif reaching is None:
                        found = cut(stream, start, stop)
                        self.assertEqual(found, bytes_of(put_placed("", parts[start:stop])))
                        self.assertEqual(inflated(found), data[borders[start]:borders[stop]])
                    else:
                        self.assert_error(NotIndependent, reaching, cut, stream, start, stop)
                    self.assertEqual(stream, before)
        self.assert_new_list(cut, EMPTY, 0, 0)
        self.assert_new_list(cut, EMPTY, 0, 1)

    def test_the_first_block_that_reaches_too_far(self):
        near = fixed_block([(1,), (257, 0, 0, 0)])
        far = fixed_block([(257, 0, 4, 0)])
        stream = whole_of(numbers(1), [near, near, far, far, near[:1] + (1,) + near[2:]])
        for start, stop, number in [(0, 5, None), (1, 2, None), (1, 3, 2), (1, 5, 2), (2, 5, 2), (3, 4, 3),
                                    (0, 3, None), (4, 5, None), (2, 3, 2)]:
            self.assertEqual(plain_first_reaching(stream, start, stop), number)
            self.assertEqual(independent(stream, start, stop), number is None)
            if number is not None:
                self.assert_error(NotIndependent, number, cut, stream, start, stop)

    def test_at_the_border_and_one_before(self):
        for distance in (1, 2, 3, 4):
            copy = fixed_block([(5,), (257, 0, distance - 1, 0)], 1)
            stream = whole_of(numbers(1), [stored_block([1]), stored_block([2, 3]), copy])
            self.assertEqual(independent(stream, 2, 3), distance <= 1)
            self.assertEqual(independent(stream, 1, 3), distance <= 3)
            self.assertEqual(independent(stream, 0, 3), True)

    def test_no_block(self):
        stream = whole_of(numbers(1), [stored_block([1, 2]), fixed_block([(257, 0, 0, 0)], 1)])
        for border in range(3):
            self.assertEqual(cut(stream, border, border), [3, 0])
            self.assertIs(independent(stream, border, border), True)

    def test_numbers_out_of_range(self):
        stream = whole_of(numbers(1), [stored_block([1, 2]), fixed_block([(257, 0, 0, 0)], 1)])
        for start, stop in [(-1, 0), (-1, 1), (0, 3), (2, 1), (1, 0), (3, 3), (0, 2 ** 40), (-2, -1), (2, 3)]:
            self.assert_error(OutOfRange, 0, cut, stream, start, stop)
            self.assert_error(OutOfRange, 0, independent, stream, start, stop)

    def test_errors_of_the_stream_come_first(self):
        for stream, error, at in [([], Truncated, 0), ([7, 0], BadKind, 1), ([3, 0, 0], Extra, 16)]:
            for start, stop in [(0, 1), (0, 0), (-1, 5)]:
                self.assert_error(error, at, cut, stream, start, stop)
                self.assert_error(error, at, independent, stream, start, stop)

    def test_fill_bits_of_a_block_that_is_cut_out(self):
        stream = whole_of(numbers(3), [shifted(numbers(1), 3), stored_block([1, 2]), shifted(numbers(1), 5),
                                       stored_block([], 1)])
        self.assertEqual(cut(stream, 1, 2), [1, 2, 0, 253, 255, 1, 2])
        self.assertEqual(cut(stream, 3, 4), [1, 0, 0, 255, 255])


class GzipMergeTest(Case):
    def test_any_members(self):
        source = numbers(710)
        headers = [PLAIN, (True, 5, 6, 7, [1, 2], [3], [], True)]
        for many in (1, 2, 3, 6):
            for _ in range(6):
                streams = [some_whole(source, 0, 2) for _ in range(many)]
                data = [inflated(stream) for stream in streams]
                header = source.choice(headers)
                text = plain_member(streams[0], data[0], *header)
                for stream, one in zip(streams[1:], data[1:]):
                    text += plain_member(stream, one, *source.choice(headers))
                before = list(text)
                found = gzip_merge(text)
                self.assertEqual(text, before)
                expected = streams[0]
                for stream in streams[1:]:
                    expected = join(expected, stream)
                self.assertEqual(found, plain_member(expected, sum(data, []), *header))
                self.assertEqual(gzip.decompress(bytes(found)), bytes(sum(data, [])))
        self.assert_new_list(gzip_merge, member_of([1]))

    def test_one_member_stays_as_it_is(self):
        text = plain_member([3, 252], [], False, 1, 2, 3, [], [], None, True)
        self.assertEqual(gzip_merge(text), text)

    def test_the_errors(self):
        good = member_of([1, 2, 3])
        for before in ([], good):
            at = 8 * len(before)
            self.assert_error(BadKind, at + 81, gzip_merge, before + plain_header() + [7])
            self.assert_error(WrongSum, at + 8 * len(good) - 64, gzip_merge, before + good[:-8] + [0] * 8)
            self.assert_error(WrongLength, at + 8 * len(good) - 32, gzip_merge, before + good[:-1] + [1])
            self.assert_error(WrongMethod, at + 16, gzip_merge, before + [31, 139, 7])
            checked = plain_header(False, 0, 0, 0, None, None, None, True)
            self.assert_error(WrongHeader, at + 80, gzip_merge, before + checked[:-1] + [checked[-1] ^ 1])
        self.assert_error(Truncated, 0, gzip_merge, [])
        self.assert_error(WrongMagic, 8 * len(good), gzip_merge, good + [0])
        self.assert_error(WrongMagic, 0, gzip_merge, [0] + good)
        for size in range(len(good)):
            self.assert_error(Truncated, 8 * size, gzip_merge, good[:size])

    def test_many_members(self):
        text = member_of([1]) * 300
        self.assertEqual(gzip_read(gzip_merge(text)), [(PLAIN, [1] * 300)])

    def test_the_limit(self):
        half = member_of([1] * 32768)
        [(_, data)] = gzip_read(gzip_merge(half + half), limit=65536)
        self.assertEqual(data, [1] * 65536)
        with self.assertRaises(TooMuch):
            gzip_merge(half + half + member_of([1]))


class ZlibJoinTest(Case):
    def text(self, stream, data, method=120, level=2):
        return zlib_head(method, level) + stream + highest_first(zlib.adler32(bytes(data)))

    def test_any_texts(self):
        source = numbers(7101)
        for _ in range(40):
            streams = [some_whole(source, 0, 2) for _ in range(2)]
            data = [inflated(stream) for stream in streams]
            levels = [source.randrange(4) for _ in range(2)]
            texts = [self.text(stream, one, 120, level) for stream, one, level in zip(streams, data, levels)]
            before = [list(text) for text in texts]
            found = zlib_join(*texts)
            self.assertEqual(texts, before)
            self.assertEqual(found, self.text(join(*streams), sum(data, []), 120, levels[0]))
            self.assertEqual(list(zlib.decompress(bytes(found))), sum(data, []))
        self.assert_new_list(zlib_join, texts[0], texts[1])

    def test_the_header_is_of_the_greater_window(self):
        for first in range(8):
            for second in range(8):
                one = self.text(EMPTY, [], 8 + 16 * first, 1)
                other = self.text([1, 1, 0, 254, 255, 7], [7], 8 + 16 * second, 3)
                found = zlib_join(one, other)
                expected = other if second > first else one
                self.assertEqual(found[:2], expected[:2])
                self.assertEqual(zlib_whole(found), [7])

    def test_the_errors_and_their_order(self):
        good = zlib_text([1, 2, 3])
        asking = zlib_text([1, 2, 3] * 3, 9, [1, 2, 3])
        wrong = [([], Truncated, 0), ([121, 0], WrongMethod, 0), ([136, 0], WrongWindow, 0),
                 ([120, 157], WrongHeader, 8), (asking, NeedsDictionary, 16), ([120, 156, 7], BadKind, 17),
                 (good[:-1] + [good[-1] ^ 1], WrongSum, 8 * len(good) - 32), (good + [0], Extra, 8 * len(good)),
                 (good[:-1], Truncated, 8 * len(good) - 8)]
        for first, error, at in wrong:
            self.assert_error(error, at, zlib_join, good, first)
            for second in [good] + [one[0] for one in wrong]:
                self.assert_error(error, at, zlib_join, first, second)

    def test_the_second_text_does_not_lean(self):
        copy = bytes_of(placed([fixed_block([(257, 0, 0, 0)], 1)])[0])
        with self.assertRaises(TooFar):
            zlib_join(zlib_text([1]), self.text(copy, [1, 1, 1]))

    def test_the_limit_is_for_each_text_by_itself(self):
        full = self.text(deflated([1] * 65536), [1] * 65536)
        found = zlib_join(full, full)
        self.assertEqual(list(zlib.decompress(bytes(found))), [1] * 131072)
        with self.assertRaises(TooMuch):
            zlib_join(full, self.text(deflated([1] * 65537), [1] * 65537))


class TogetherTest(Case):
    def test_cutting_and_joining_again(self):
        source = numbers(7091)
        for _ in range(40):
            stream = some_whole(source, 0, 3)
            many = len(parts_of(stream)[0])
            middle = source.randint(1, many)
            if many > middle and independent(stream, middle, many):
                again = join(cut(stream, 0, middle), cut(stream, middle, many))
                self.assertEqual(again, cut(stream, 0, many))
            self.assertEqual(inflate(cut(stream, 0, many), limit=65536)[0], inflated(stream))

    def test_wrong_streams_raise_the_errors_of_the_program(self):
        source = numbers(7092)
        for _ in range(60):
            stream = some_bytes(source, source.randint(0, 20))
            for call in (lambda: join(stream, EMPTY), lambda: join(EMPTY, stream), lambda: cut(stream, 0, 1)):
                try:
                    call()
                except BellowsError:
                    continue

    def test_lengths_are_lowest_first(self):
        data = [1] * 300
        found = gzip_merge(member_of(data) + member_of(data))
        self.assertEqual(found[-8:], lowest_first(zlib.crc32(bytes(data * 2))) + [88, 2, 0, 0])


if __name__ == "__main__":
    unittest.main()
