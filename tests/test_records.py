"""Points 801, 805 and 806, and bellows/log/records.py."""

import gzip
import unittest
import zlib

from bellows.deflate.machine import Deflater
from bellows.errors import (
    BadKind, BellowsError, TooMuch, Truncated, WrongFlags, WrongFrames, WrongHeader, WrongLength, WrongMagic,
    WrongMember, WrongMethod, WrongSum,
)
from bellows.log.records import read_frames, read_header, read_member, write_frames, write_member
from checks import Case, numbers, some_bytes
from texts import deflated, lowest_first, plain_member


def plain_steps(number):
    found = []
    while number > 127:
        found.append(number % 128 + 128)
        number //= 128
    return found + [number]


def plain_frames(entries):
    return [byte for entry in entries for byte in plain_steps(len(entry)) + entry]


def plain_stream(data, level):
    machine = Deflater(level=level)
    machine.feed(data)
    machine.finish()
    return machine.take()


def plain_extra(first_entry, count, first_batch, batches, size):
    data = (lowest_first(first_entry) + lowest_first(count, 2) + lowest_first(first_batch)
            + lowest_first(batches, 2) + lowest_first(size))
    return [76, 71, 20, 0] + data + lowest_first(zlib.crc32(bytes(data)))


def made_member(numbers_of, stream, data, change=None, **fields):
    """A member with any numbers, whose size is right unless it is changed."""
    first_entry, count, first_batch, batches = numbers_of
    size = 36 + len(stream) + 8 if change is None else change
    named = {"time": 0, "hint": 0, "system": 255, "extra": plain_extra(first_entry, count, first_batch, batches, size)}
    named.update(fields)
    return plain_member(stream, data, named.get("is_text", False), named["time"], named["hint"], named["system"],
                        named["extra"], named.get("name"), named.get("comment"), named.get("is_checked", False))


def some_entries(source, many):
    return [some_bytes(source, source.choice([0, 1, 5, 20, 127, 128]), 9) for _ in range(many)]


class FramesTest(Case):
    def test_by_hand(self):
        self.assertEqual(write_frames([]), [])
        self.assertEqual(write_frames([[], [7], [8, 9]]), [0, 1, 7, 2, 8, 9])
        self.assertEqual(write_frames([[5] * 128]), [128, 1] + [5] * 128)
        self.assertEqual(write_frames([[5] * 256])[:3], [128, 2, 5])
        self.assertEqual(read_frames([]), [])
        self.assertEqual(read_frames([0, 1, 7, 2, 8, 9]), [[], [7], [8, 9]])

    def test_written_and_read_back(self):
        source = numbers(801)
        for _ in range(100):
            entries = [some_bytes(source, source.choice([0, 1, 127, 128, 255, 256, source.randint(0, 256)]))
                       for _ in range(source.randint(0, 8))]
            before = [list(entry) for entry in entries]
            self.assertEqual(write_frames(entries), plain_frames(entries))
            self.assertEqual(entries, before)
            self.assertEqual(read_frames(plain_frames(entries)), entries)
        self.assert_new_list(write_frames, [[1]])
        self.assert_new_list(read_frames, [1, 1])
        first = read_frames([1, 1])
        first[0].append(2)
        self.assertEqual(read_frames([1, 1]), [[1]])

    def test_cut_at_each_place(self):
        entries = [[1, 2], [], [3] * 130, [4]]
        data = plain_frames(entries)
        ends = [len(plain_frames(entries[:many])) for many in range(5)]
        for size in range(len(data)):
            start = max(end for end in ends if end <= size)
            if start == size:
                self.assertEqual(read_frames(data[:size]), entries[:ends.index(size)])
            else:
                self.assert_error(WrongFrames, start, read_frames, data[:size])

    def test_frames_that_are_not_right(self):
        for before in ([], [0], [2, 8, 9, 0]):
            for wrong in ([1], [128], [128, 0], [129, 0, 5], [129, 2] + [0] * 300, [255] * 9 + [1], [128] * 8 + [0],
                          [255, 255, 255, 255, 255, 255, 255, 255, 127], [129, 2], [200, 1] + [0] * 199):
                self.assert_error(WrongFrames, len(before), read_frames, before + wrong)
        self.assertEqual(read_frames([128, 2] + [0] * 256), [[0] * 256])


class MemberTest(Case):
    def test_written_as_described(self):
        source = numbers(805)
        for many in (1, 2, 15):
            for level in (6, 9, 0):
                entries = some_entries(source, many)
                data = plain_frames(entries)
                stream = plain_stream(data, level)
                first_entry, first_batch = source.randrange(2 ** 32), source.randrange(2 ** 32)
                batches = source.randint(1, many)
                before = [list(entry) for entry in entries]
                found = write_member(first_entry, first_batch, batches, entries, level)
                self.assertEqual(entries, before)
                self.assertEqual(found, made_member((first_entry, many, first_batch, batches), stream, data))
                self.assertEqual(found[:16], [31, 139, 8, 4, 0, 0, 0, 0, 0, 255, 24, 0, 76, 71, 20, 0])
                self.assertEqual(gzip.decompress(bytes(found)), bytes(data))
                for start in (0, 5):
                    text = [1] * start + found
                    expected = (first_entry, first_batch, batches, entries, start + len(found))
                    self.assertEqual(read_member(text, start), expected)
                    self.assertEqual(read_member(text + [1, 2], start), expected)
                for size in (36, 40, 64, len(found)):
                    self.assertEqual(read_header(found[:size]), (first_entry, many, first_batch, batches, len(found)))
        self.assert_new_list(write_member, 1, 2, 1, [[3]], 6)

    def test_several_batches_and_many_entries(self):
        for many in (16, 240, 256):
            for batches in (1, 16, many):
                entries = [[k % 256] for k in range(many)]
                member = write_member(7, 3, batches, entries, 9)
                self.assertEqual(read_member(member, 0), (7, 3, batches, entries, len(member)))

    def test_any_stream_of_the_data(self):
        entries = [[1, 2, 3], [1, 2, 3]]
        data = plain_frames(entries)
        for level in range(10):
            stream = deflated(data, level)
            member = made_member((5, 2, 4, 2), stream, data)
            self.assertEqual(read_member(member, 0), (5, 4, 2, entries, len(member)))

    def test_new_lists(self):
        member = write_member(0, 0, 1, [[1]], 6)
        first = read_member(member, 0)
        first[3][0].append(2)
        first[3].append([])
        self.assertEqual(read_member(member, 0)[3], [[1]])

    def test_members_one_behind_the_other(self):
        text = write_member(0, 0, 1, [[1]], 6) + write_member(1, 1, 1, [[2], []], 9)
        entry, batch, batches, entries, after = read_member(text, 0)
        self.assertEqual((entry, batch, batches, entries), (0, 0, 1, [[1]]))
        self.assertEqual(read_member(text, after), (1, 1, 1, [[2], []], len(text)))


class WrongMemberTest(Case):
    def check(self, error, member, place=0):
        for start in (0, 3):
            self.assert_error(error, 8 * (start + place), read_member, [0] * start + member, start)

    def setUp(self):
        self.entries = [[1, 2], [3]]
        self.data = plain_frames(self.entries)
        self.stream = deflated(self.data)
        self.good = made_member((9, 2, 8, 1), self.stream, self.data)

    def test_the_errors_of_part_6_come_first(self):
        self.assertEqual(read_member(self.good, 0)[3], self.entries)
        wrong_extra = [0] * 24
        for error, place, member in [
                (WrongMagic, 0, [30] + self.good[1:]), (WrongMagic, 1, self.good[:1] + [1]),
                (WrongMethod, 2, self.good[:2] + [9]), (WrongFlags, 3, self.good[:3] + [36]),
                (WrongSum, len(self.good) - 8, self.good[:-8] + [0] * 8),
                (WrongLength, len(self.good) - 4, self.good[:-1] + [1]),
                (WrongSum, len(self.good) - 8, made_member((9, 2, 8, 1), self.stream, [], extra=wrong_extra))]:
            self.check(error, member, place)
        for start in (0, 3):
            for size in range(len(self.good)):
                text = [0] * start + self.good[:size]
                self.assert_error(Truncated, 8 * len(text), read_member, text, start)
            self.assert_error(BadKind, 8 * (start + 36) + 1, read_member, [0] * start + self.good[:36] + [7], start)
        checked = made_member((9, 2, 8, 1), self.stream, self.data, is_checked=True)
        checked[36] ^= 1
        self.check(WrongHeader, checked, 36)
        # The limit is 4,096 bytes.
        data = [0] * 4097
        self.assert_error(TooMuch, self.too_much(data), read_member, made_member((0, 256, 0, 1), deflated(data), data), 0)

    def too_much(self, data):
        from bellows.wraps.gzips import member_at
        with self.assertRaises(TooMuch) as caught:
            member_at(made_member((0, 256, 0, 1), deflated(data), data), 0)
        return caught.exception.at

    def test_the_header(self):
        numbers_of = (9, 2, 8, 1)
        size = len(self.good)
        extra = plain_extra(*numbers_of, size)
        for fields in ({"is_text": True}, {"time": 1}, {"time": 2 ** 31}, {"hint": 2}, {"system": 3},
                       {"name": []}, {"comment": [1]}, {"is_checked": True}, {"extra": None}, {"extra": []},
                       {"extra": extra[:-1]}, {"extra": extra + [0]}, {"extra": [76, 72] + extra[2:]},
                       {"extra": extra[:2] + [21] + extra[3:]}, {"extra": extra[:3] + [1] + extra[4:]},
                       {"extra": extra[:-1] + [extra[-1] ^ 1]}, {"extra": extra[:4] + [extra[4] ^ 1] + extra[5:]}):
            self.check(WrongMember, made_member(numbers_of, self.stream, self.data, **fields))

    def test_the_numbers(self):
        for count, batches in [(0, 0), (0, 1), (257, 1), (65535, 1), (2, 0), (2, 3), (1, 2), (2, 65535)]:
            member = made_member((9, count, 8, batches), self.stream, self.data)
            self.check(WrongMember, member)
            self.assert_error(WrongMember, 0, read_header, member)

    def test_the_size(self):
        for other in (0, 36, len(self.good) - 1, len(self.good) + 1, 2 ** 32 - 1):
            self.check(WrongMember, made_member((9, 2, 8, 1), self.stream, self.data, other))
            # The header by itself is right.
            member = made_member((9, 2, 8, 1), self.stream, self.data, other)
            self.assertEqual(read_header(member), (9, 2, 8, 1, other))

    def test_the_frames(self):
        for count in (1, 3, 256):
            self.check(WrongFrames, made_member((9, count, 8, 1), self.stream, self.data))
        for data in ([], [1], [2, 1, 2, 1, 3, 1], [128, 0, 0], [129, 2] + [0] * 257 + [0]):
            self.check(WrongFrames, made_member((9, 2, 8, 1), deflated(data), data))

    def test_the_order(self):
        # The header before the size, and the size before the frames.
        self.check(WrongMember, made_member((9, 2, 8, 1), self.stream, self.data, 7, time=1))
        self.check(WrongMember, made_member((9, 2, 8, 1), deflated([1]), [1], 7))
        self.check(WrongMember, made_member((9, 0, 8, 1), deflated([1]), [1]))

    def test_each_bit_changed(self):
        # Whatever changes, the program raises an error of its own, or the member is still one.
        for index in range(len(self.good)):
            for bit in range(8):
                wrong = list(self.good)
                wrong[index] ^= 1 << bit
                try:
                    found = read_member(wrong, 0)
                except BellowsError:
                    continue
                self.assertEqual(found[3], self.entries)


class HeaderTest(Case):
    def test_fewer_than_36_bytes(self):
        member = write_member(1, 2, 1, [[3]], 6)
        for size in range(36):
            self.assert_error(Truncated, 8 * size, read_header, member[:size])
            self.assert_error(Truncated, 8 * size, read_header, [0] * size)
        self.assertEqual(read_header(member[:36]), (1, 1, 2, 1, len(member)))

    def test_each_bit_changed(self):
        member = write_member(1, 2, 1, [[3]], 6)
        for index in range(36):
            for bit in range(8):
                wrong = member[:64]
                wrong[index] ^= 1 << bit
                self.assert_error(WrongMember, 0, read_header, wrong)

    def test_it_does_not_look_beyond_the_extra_field(self):
        member = write_member(1, 2, 1, [[3]], 6)
        self.assertEqual(read_header(member[:36] + [255] * 28), (1, 1, 2, 1, len(member)))


if __name__ == "__main__":
    unittest.main()
