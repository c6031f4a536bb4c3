"""Points 605 to 609, and bellows/wraps/gzips.py."""

import gzip
import itertools
import unittest
import zlib

from bellows.errors import (
    BadCount, BadKind, BadStored, BellowsError, TooFar, TooMuch, Truncated, WrongFlags, WrongHeader,
    WrongLength, WrongMagic, WrongMember, WrongMethod, WrongSum,
)
from bellows.wraps.gzips import (
    gzip_header, gzip_lead, gzip_member, gzip_read, member_at, plain_header, read_header,
)
from checks import Case, numbers, some_bytes
from streams import bytes_of, placed, some_stream
from texts import Bytes, deflated, lowest_first, member_of, plain_header as plain, plain_member, plain_read_header

PLAIN = (False, 0, 0, 255, None, None, None, False)
EMPTY = [31, 139, 8, 0, 0, 0, 0, 0, 0, 255, 3, 0] + [0] * 8
READERS = (gzip_read, gzip_lead, lambda text, **named: member_at(text, 0, **named))


def all_headers():
    """Each field absent, empty and present, in all combinations."""
    extras = (None, [], [0, 1, 255, 0])
    words = (None, [], [1, 255, 10])
    numbers_of = ((0, 0, 0), (2 ** 32 - 1, 255, 255), (0x01020304, 2, 3))
    for is_text, is_checked in itertools.product((False, True), repeat=2):
        for extra, name, comment in itertools.product(extras, words, words):
            for time, hint, system in numbers_of:
                yield (is_text, time, hint, system, extra, name, comment, is_checked)


class HeaderTest(Case):
    def test_every_header_is_written_and_read(self):
        for header in all_headers():
            expected = plain(*header)
            self.assertEqual(gzip_header(header), expected)
            for before, behind in (([], []), ([7, 31], [1, 2, 3])):
                text = before + expected + behind
                found = read_header(text, len(before))
                self.assertEqual(found, (header, len(before) + len(expected)))
                self.assertIs(type(found[0][0]), bool)
                self.assertIs(type(found[0][7]), bool)

    def test_the_plain_header(self):
        self.assertEqual(plain_header(), PLAIN)
        self.assertEqual(gzip_header(plain_header()), [31, 139, 8, 0, 0, 0, 0, 0, 0, 255])
        self.assertEqual(gzip_member(plain_header(), [3, 0], []), EMPTY)
        for value, kind in zip(plain_header(), (bool, int, int, int, type(None), type(None), type(None), bool)):
            self.assertIs(type(value), kind)

    def test_the_check_is_of_the_member_only(self):
        header = (True, 5, 6, 7, [1], [2], None, True)
        text = plain(*header)
        self.assertEqual(text[-2:], lowest_first(zlib.crc32(bytes(text[:-2])) & 65535, 2))
        for before in ([], [1], [31, 139, 8]):
            self.assertEqual(read_header(before + text, len(before))[0], header)

    def test_python_reads_the_members(self):
        data = list(b"some data, some data")
        for header in all_headers():
            member = gzip_member(header, deflated(data), data)
            self.assertEqual(member, plain_member(deflated(data), data, *header))
            self.assertEqual(gzip.decompress(bytes(member)), bytes(data))

    def test_new_lists(self):
        header = (False, 0, 0, 0, [1], [2], [3], False)
        text = plain(*header)
        first = read_header(text, 0)[0]
        for index in (4, 5, 6):
            first[index].append(9)
        self.assertEqual(read_header(text, 0)[0], header)
        self.assertEqual(text, plain(*header))
        self.assert_new_list(gzip_header, header)
        self.assertEqual(header, (False, 0, 0, 0, [1], [2], [3], False))

    def test_every_beginning_of_a_header_is_truncated(self):
        for header in [(True, 1, 2, 3, [4, 5], [6], [7], True), (False, 1, 2, 3, [], [], [], True), PLAIN]:
            for before in ([], [9, 9]):
                text = before + plain(*header)
                for size in range(len(before), len(text)):
                    self.assert_error(Truncated, 8 * size, read_header, text[:size], len(before))
        self.assert_error(Truncated, 0, read_header, [], 0)
        self.assert_error(Truncated, 24, read_header, [31, 139, 8], 3)

    def test_each_byte_is_checked_as_soon_as_it_is_read(self):
        for start in (0, 3):
            for size in range(4):
                before = [1] * start + [31, 139, 8][:size]
                self.assert_error(Truncated, 8 * len(before), read_header, before, start)
            text = [1] * start
            for wrong in set(range(256)) - {31}:
                self.assert_error(WrongMagic, 8 * start, read_header, text + [wrong], start)
            for wrong in set(range(256)) - {139}:
                self.assert_error(WrongMagic, 8 * start + 8, read_header, text + [31, wrong], start)
            for wrong in set(range(256)) - {8}:
                self.assert_error(WrongMethod, 8 * start + 16, read_header, text + [31, 139, wrong], start)
            for flags in range(256):
                error, at = (WrongFlags, start + 3) if flags >= 32 else (Truncated, start + 4)
                self.assert_error(error, 8 * at, read_header, text + [31, 139, 8, flags], start)

    def test_the_order_of_the_first_bytes(self):
        self.assert_error(WrongMagic, 0, read_header, [0, 0, 0, 255], 0)
        self.assert_error(WrongMagic, 8, read_header, [31, 0, 0, 255], 0)
        self.assert_error(WrongMethod, 16, read_header, [31, 139, 0, 255], 0)
        self.assert_error(WrongFlags, 24, read_header, [31, 139, 8, 255], 0)

    def test_the_header_check(self):
        text = plain(False, 0, 0, 255, [1, 2], [3], None, True)
        at = len(text) - 2
        for index in range(at, at + 2):
            for bit in range(8):
                wrong = list(text)
                wrong[index] ^= 1 << bit
                self.assert_error(WrongHeader, 8 * at, read_header, wrong, 0)
                self.assert_error(Truncated, 8 * at + 8, read_header, wrong[:at + 1], 0)
        for index in range(4, at):
            if index not in (10, 11, 14, 15):
                wrong = list(text)
                wrong[index] ^= 128
                self.assert_error(WrongHeader, 8 * at, read_header, wrong, 0)
        self.assert_error(WrongHeader, 8 * at + 40, read_header, [0] * 5 + text[:-1] + [text[-1] ^ 1], 5)

    def test_any_headers(self):
        source = numbers(607)
        for _ in range(2000):
            size = source.choice([4, 12, 30, 60])
            start = source.choice([0, 0, 5])
            text = [31, 139, 8, source.choice([0, 2, 4, 8, 16, 28, 30, 31, source.randrange(40)])]
            text += [source.choice([0, 0, 1, 2, source.randrange(256)]) for _ in range(size)]
            if source.random() < 0.1:
                text[source.randrange(3)] ^= 1
            text = some_bytes(source, start) + text
            try:
                plain_source = Bytes(text, start)
                expected = plain_read_header(plain_source)
            except BellowsError as error:
                self.assert_error(type(error), error.at, read_header, text, start)
            else:
                self.assertEqual(read_header(text, start), (expected, plain_source.at))


class WrongMemberTest(Case):
    def check(self, header):
        self.assert_error(WrongMember, 0, gzip_header, header)
        self.assert_error(WrongMember, 0, gzip_member, header, [3, 0], [])

    def test_a_zero_in_the_words(self):
        for words in ([0], [1, 0], [0, 1], [1, 0, 2]):
            self.check((False, 0, 0, 0, None, words, None, False))
            self.check((False, 0, 0, 0, None, None, words, False))
            self.check((False, 0, 0, 0, None, [1], words, True))
        # In the extra field, it is like any other byte.
        header = (False, 0, 0, 0, [0, 0], None, None, False)
        self.assertEqual(read_header(gzip_header(header), 0)[0], header)

    def test_the_size_of_the_extra_field(self):
        for size in (65535, 65534, 256, 255):
            header = (False, 0, 0, 0, [7] * size, None, None, True)
            text = gzip_header(header)
            self.assertEqual(text, plain(*header))
            self.assertEqual(read_header(text, 0), (header, size + 14))
        self.check((False, 0, 0, 0, [7] * 65536, None, None, False))

    def test_the_time(self):
        for time in (0, 1, 255, 256, 2 ** 32 - 1):
            header = (False, time, 0, 0, None, None, None, False)
            self.assertEqual(gzip_header(header)[4:8], lowest_first(time))
        for time in (-1, 2 ** 32, 2 ** 40, -2 ** 32):
            self.check((False, time, 0, 0, None, None, None, False))


class ReadTest(Case):
    def test_texts_of_zlib(self):
        source = numbers(605)
        for size in (0, 1, 300, 4096):
            data = some_bytes(source, size, source.choice([3, 255]))
            for level in (0, 1, 9):
                text = list(gzip.compress(bytes(data), level))
                before = list(text)
                [(header, found)] = gzip_read(text)
                self.assertEqual(found, data)
                self.assertEqual(header[4:], (None, None, None, False))
                self.assertEqual(gzip_lead(text), ([(header, data)], len(text)))
                self.assertEqual(member_at(text, 0), (header, data, len(text)))
                self.assertEqual(text, before)

    def test_every_header_before_a_stream(self):
        for header in all_headers():
            text = plain_member([75, 132, 3, 0], [97] * 10, *header)
            self.assertEqual(gzip_read(text), [(header, [97] * 10)])

    def test_several_members(self):
        source = numbers(6051)
        headers = list(all_headers())
        for many in (1, 2, 3, 10):
            chosen = [(source.choice(headers), some_bytes(source, source.choice([0, 1, 40])))
                      for _ in range(many)]
            members = [plain_member(deflated(data), data, *header) for header, data in chosen]
            text = sum(members, [])
            self.assertEqual(gzip_read(text), chosen)
            self.assertEqual(gzip_lead(text), (chosen, len(text)))
            start = 0
            for (header, data), member in zip(chosen, members):
                self.assertEqual(member_at(text, start), (header, data, start + len(member)))
                start += len(member)

    def test_what_stands_behind_the_last_member(self):
        one = [(PLAIN, [])]
        for more, error, at in [([0], WrongMagic, 160), ([0, 139, 8], WrongMagic, 160), ([31], Truncated, 168),
                                ([31, 0], WrongMagic, 168), ([0, 31, 139], WrongMagic, 160)]:
            self.assert_error(error, at, gzip_read, EMPTY + more)
            self.assertEqual(gzip_lead(EMPTY + more), (one, 20))
            self.assertEqual(gzip_lead(EMPTY + EMPTY + more), (one * 2, 40))
            self.assertEqual(member_at(EMPTY + more, 0), (PLAIN, [], 20))
        for more, error, at in [([31, 139], Truncated, 176), ([31, 139, 9], WrongMethod, 176),
                                ([31, 139, 8, 32], WrongFlags, 184), (EMPTY[:-1], Truncated, 312)]:
            self.assert_error(error, at, gzip_read, EMPTY + more)
            self.assert_error(error, at, gzip_lead, EMPTY + more)

    def test_the_first_member_must_be_there(self):
        for reader in READERS:
            self.assert_error(Truncated, 0, reader, [])
            self.assert_error(WrongMagic, 0, reader, [30, 139, 8])
            self.assert_error(WrongMagic, 8, reader, [31, 138, 8])

    def test_every_proper_beginning(self):
        source = numbers(6052)
        for text in (EMPTY, member_of(some_bytes(source, 30, 4), 9), member_of(some_bytes(source, 30), 0),
                     plain_member(deflated([1, 2]), [1, 2], True, 9, 9, 9, [1], [2], [3], True)):
            for size in range(len(text)):
                for reader in READERS:
                    self.assert_error(Truncated, 8 * size, reader, text[:size])
                if size:
                    self.assert_error(Truncated, 160 + 8 * size, gzip_read, EMPTY + text[:size])

    def test_errors_of_the_stream(self):
        head = plain()
        for reader in READERS:
            self.assert_error(BadKind, 81, reader, head + [7, 0, 0])
            self.assert_error(BadStored, 104, reader, head + [1, 5, 0, 5, 0])
            self.assert_error(BadCount, 83, reader, head + [253, 255, 255])
            stream = bytes_of(placed([(1, 1, 0, 0, 0, [(7,), (257, 0, 1, 0)], [])])[0])
            self.assert_error(TooFar, 91, reader, head + stream + [0] * 8)

    def test_the_window_is_the_greatest_one(self):
        data = [k % 251 for k in range(32768)]
        far = [(0, 0, 0, 0, 0, data, [0] * 5), (1, 1, 0, 0, 0, [(257, 0, 29, 8191)], [])]
        stream = bytes_of(placed(far)[0])
        text = plain_member(stream, data + data[:3])
        self.assertEqual(gzip_read(text, limit=65536), [(PLAIN, data + data[:3])])

    def test_the_checksum_and_the_length(self):
        data = [1, 2, 3]
        for before in ([], EMPTY):
            text = before + member_of(data)
            at = 8 * (len(text) - 8)
            for bit in range(64):
                wrong = list(text)
                wrong[-8 + bit // 8] ^= 1 << bit % 8
                error, place = (WrongSum, at) if bit < 32 else (WrongLength, at + 32)
                self.assert_error(error, place, gzip_read, wrong)
                self.assert_error(error, place, gzip_lead, wrong)
                self.assert_error(error, place, member_at, wrong, len(before))
        # Both are wrong: the checksum comes first, even if the length is not there.
        wrong = member_of(data)[:-8] + [0] * 8
        for size in range(-3, 1):
            self.assert_error(WrongSum, 8 * (len(wrong) - 8), gzip_read, wrong[:len(wrong) + size - 1])
        self.assert_error(Truncated, 8 * (len(wrong) - 5), gzip_read, wrong[:-5])

    def test_bits_between_the_stream_and_the_checksum(self):
        for value in range(64):
            self.assertEqual(gzip_read(EMPTY[:11] + [value * 4] + EMPTY[12:]), [(PLAIN, [])])

    def test_any_streams(self):
        source = numbers(6053)
        for _ in range(60):
            stream, _, end = some_stream(source)
            stream = stream[:(end + 7) // 8]
            data = list(zlib.decompressobj(-15).decompress(bytes(stream)))
            text = gzip_member(PLAIN, stream, data)
            self.assertEqual(gzip_read(text, limit=65536), [(PLAIN, data)])

    def test_the_stream_is_not_checked(self):
        self.assertEqual(gzip_member(PLAIN, [7, 7], [1, 2]),
                         plain() + [7, 7] + lowest_first(zlib.crc32(bytes([1, 2]))) + [2, 0, 0, 0])
        self.assertEqual(gzip_member(PLAIN, [], []), plain() + [0] * 8)

    def test_new_lists(self):
        text = plain_member([3, 0], [], False, 0, 0, 0, [1], [2], [3], False)
        for reader in (gzip_read, lambda one: gzip_lead(one)[0]):
            self.assert_new_list(reader, text)
            first = reader(text)
            first[0][1].append(4)
            first[0][0][4].append(4)
            self.assertEqual(reader(text), [((False, 0, 0, 0, [1], [2], [3], False), [])])
        first = member_at(text, 0)
        first[1].append(4)
        self.assertEqual(member_at(text, 0)[1], [])
        self.assert_new_list(gzip_member, PLAIN, [3, 0], [])


class LimitTest(Case):
    def test_over_all_members_together(self):
        text = member_of([1, 2, 3], 0) + EMPTY + member_of([4, 5], 0) + EMPTY
        data = [[1, 2, 3], [], [4, 5], []]
        for reader in (gzip_read, lambda one, limit: gzip_lead(one, limit=limit)[0]):
            self.assertEqual([found for _, found in reader(text, limit=5)], data)
            # The last byte that is one too many, in the second stored block.
            at = len(member_of([1, 2, 3], 0)) + len(EMPTY) + 10 + 5
            self.assert_error(TooMuch, 8 * at + 8, reader, text, limit=4)
            self.assert_error(TooMuch, 8 * at, reader, text, limit=3)
            self.assert_error(TooMuch, 8 * 17, reader, text, limit=2)
            self.assert_error(TooMuch, 8 * 15, reader, text, limit=0)
        self.assertEqual(member_at(text, 0, limit=3)[1], [1, 2, 3])
        self.assert_error(TooMuch, 8 * 17, member_at, text, 0, limit=2)

    def test_a_member_without_data_fits_always(self):
        for reader in READERS:
            reader(EMPTY, limit=0)
        self.assertEqual(len(gzip_read(member_of([1]) + EMPTY * 3, limit=1)), 4)

    def test_the_default(self):
        data = [1] * 2048
        text = member_of(data) * 2
        for reader in READERS[:2]:
            reader(text)
            with self.assertRaises(TooMuch):
                reader(text + member_of([1]))
        with self.assertRaises(TooMuch):
            member_at(member_of([1] * 4097), 0)
        self.assertEqual(member_at(member_of([1] * 4096), 0)[1], [1] * 4096)

    def test_the_greatest_one(self):
        text = member_of([1] * 65535)
        for reader in READERS[:2]:
            reader(text + member_of([1]), limit=65536)
            with self.assertRaises(TooMuch):
                reader(text + member_of([1, 1]), limit=65536)


if __name__ == "__main__":
    unittest.main()
