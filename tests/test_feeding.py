"""Points 601, 603 and 610 to 612 (with 451 to 454), and bellows/wraps/feeding.py."""

import unittest
import zlib

from bellows.errors import (
    BadKind, BellowsError, NeedsDictionary, NotNow, TooFar, TooMuch, Truncated, WrongDictionary, WrongFlags,
    WrongHeader, WrongLength, WrongMagic, WrongMethod, WrongSum, WrongWindow,
)
from bellows.wraps.feeding import GzipReader, ZlibReader
from bellows.wraps.gzips import gzip_read
from bellows.wraps.zlibs import zlib_read
from checks import Case, numbers, some_bytes
from streams import bytes_of, placed, some_stream, spoilt
from texts import (
    GzipModel, ZlibModel, deflated, highest_first, member_of, plain_header, plain_member, zlib_head, zlib_text,
)

EMPTY_ZLIB = [120, 156, 3, 0, 0, 0, 0, 1]
EMPTY_GZIP = [31, 139, 8, 0, 0, 0, 0, 0, 0, 255, 3, 0] + [0] * 8
PLAIN = (False, 0, 0, 255, None, None, None, False)
ROOMS = [None, None, 0, 1, 2, 3, 10, 300]
ZLIB_CALLS = ("given", "owed", "ended", "waits", "close", "rest", "head")
GZIP_CALLS = ("given", "owed", "ended", "waits", "close", "members")


def outcome(function, *values, **named):
    try:
        return function(*values, **named)
    except BellowsError as error:
        return type(error), error.at


def some_data_stream(source, reach=0):
    """A stream that ends in its last byte, and its data behind a dictionary of zeros."""
    stream, _, end = some_stream(source, 0, reach, 3)
    stream = stream[:(end + 7) // 8]
    reader = zlib.decompressobj(-15, bytes(reach)) if reach else zlib.decompressobj(-15)
    return stream, list(reader.decompress(bytes(stream)))


def some_zlib(source):
    """A zlib text and its dictionary, of any streams."""
    dictionary = source.choice([None, None, [0] * 5])
    stream, data = some_data_stream(source, 5 if dictionary else 0)
    head = zlib_head(120, source.randrange(4), dictionary is not None)
    if dictionary is not None:
        head += highest_first(zlib.adler32(bytes(dictionary)))
    return head + stream + highest_first(zlib.adler32(bytes(data))), dictionary


def some_gzip(source):
    text = []
    for _ in range(source.choice([1, 1, 2, 3])):
        words = [None, [], some_bytes(source, 3, 200)]
        fields = [source.choice(words), source.choice(words), source.choice(words)]
        fields[1:] = [None if field is None else [byte or 1 for byte in field] for field in fields[1:]]
        stream, data = some_data_stream(source)
        text += plain_member(stream, data, source.random() < 0.5, source.randrange(2 ** 32), 0, 3, *fields,
                             source.random() < 0.5)
    return text


class WalkTest(Case):
    """Any calls in any order, compared with the model after each of them."""

    def check_same(self, reader, model, calls):
        for name in calls:
            self.assertEqual(outcome(getattr(reader, name)), outcome(getattr(model, name)), name)

    def walk(self, source, text, reader, model, calls):
        at = 0
        calm = 0
        most = source.choice([1, 2, 40])
        while calm < 4:
            part = text[at:at + source.choice([0, 1, 1, most])]
            at += len(part)
            room = source.choice(ROOMS)
            before = list(part)
            expected = outcome(model.feed, part, room)
            self.assertEqual(outcome(reader.feed, part, room), expected)
            self.assertEqual(part, before)
            self.check_same(reader, model, calls)
            if source.random() < 0.1:
                reader = reader.copy()
                self.check_same(reader, model, calls)
            if expected == (NeedsDictionary, 16) and source.random() < 0.5:
                self.check_dictionaries(source, reader, model)
            calm = calm + 1 if at >= len(text) else 0

    def check_dictionaries(self, source, reader, model):
        for dictionary in ([1], [0] * 5, [0] * 5):
            expected = outcome(model.set_dictionary, dictionary)
            self.assertEqual(outcome(reader.set_dictionary, dictionary), expected)
            self.check_same(reader, model, ZLIB_CALLS)

    def test_zlib_texts(self):
        source = numbers(610)
        for _ in range(80):
            text, dictionary = some_zlib(source)
            text = text[:120] + source.choice([[], [], [1, 2, 3]])
            if source.random() < 0.4:
                text = spoilt(source, text)
            given = source.choice([dictionary, dictionary, None, [9]])
            limit = source.choice([4096, 65536, source.randrange(60)])
            reader = ZlibReader(dictionary=given, limit=limit)
            self.walk(source, text, reader, ZlibModel(given, limit), ZLIB_CALLS)

    def test_gzip_texts(self):
        source = numbers(6101)
        for _ in range(80):
            text = some_gzip(source)[:120] + source.choice([[], [], [0], [31], [31, 139, 8]])
            if source.random() < 0.4:
                text = spoilt(source, text)
            limit = source.choice([4096, 65536, source.randrange(60)])
            self.walk(source, text, GzipReader(limit=limit), GzipModel(limit), GZIP_CALLS)


class SameAsWholeTest(Case):
    """The bytes and errors are those of reading the whole text at once."""

    def check(self, function, make, text):
        expected = outcome(function, text)
        for size in (1, 3, len(text) + 1):
            for room in (None, 1, 7):
                reader = make()
                found = []
                for at in range(0, len(text), size):
                    part = outcome(reader.feed, text[at:at + size], room)
                    if isinstance(part, list):
                        found += part
                while isinstance(part := outcome(reader.feed, [], room), list) and part:
                    found += part
                if isinstance(expected, list):
                    self.assertEqual(found, expected)
                    self.assertTrue(reader.ended())
                    self.assertIsNone(reader.close())
                else:
                    self.assertEqual(outcome(reader.close), expected)
                    if expected[0] is not Truncated:
                        self.assertEqual(part, expected)
                        self.assertEqual(outcome(reader.feed, [1, 2, 3], 1), expected)

    def test_zlib(self):
        source = numbers(6102)
        for _ in range(40):
            text, dictionary = some_zlib(source)
            if source.random() < 0.6:
                text = spoilt(source, text)
            given = source.choice([dictionary, dictionary, None])
            self.check(lambda one: zlib_read(one, dictionary=given, limit=300)[0],
                       lambda: ZlibReader(dictionary=given, limit=300), text)

    def test_gzip(self):
        source = numbers(6103)
        for _ in range(40):
            text = some_gzip(source)
            if source.random() < 0.6:
                text = spoilt(source, text)
            self.check(lambda one: sum([data for _, data in gzip_read(one, limit=300)], []),
                       lambda: GzipReader(limit=300), text)


class ZlibReaderTest(Case):
    def test_a_text_byte_by_byte(self):
        data = some_bytes(numbers(611), 400, 5)
        text = zlib_text(data, 9)
        reader = ZlibReader()
        found = []
        for index, byte in enumerate(text):
            self.assertEqual(reader.rest(), [])
            self.assertFalse(reader.ended())
            self.assertTrue(reader.waits())
            self.assert_error(Truncated, 8 * index, reader.close)
            self.assertEqual(reader.head(), None if index < 2 else (32768, 3, None))
            found += reader.feed([byte])
            self.assertEqual(reader.given(), len(found))
        self.assertEqual(found, data)
        self.assertTrue(reader.ended())
        self.assertFalse(reader.waits())
        self.assertIsNone(reader.close())
        self.assertEqual(reader.rest(), [])
        self.assertEqual(reader.feed([5, 6]), [])
        self.assertEqual(reader.rest(), [5, 6])
        self.assert_new_list(reader.rest)
        self.assertIsNone(reader.close())

    def test_errors_of_the_header(self):
        for first, error, at in [(121, WrongMethod, 0), (136, WrongWindow, 0), (120, WrongHeader, 8)]:
            reader = ZlibReader()
            # Both bytes are read before either is checked.
            self.assertEqual(reader.feed([first]), [])
            self.assertTrue(reader.waits())
            for room in (0, None, 1):
                self.assert_error(error, at, reader.feed, [0] if room == 0 else [], room)
            self.assertFalse(reader.waits())
            self.assert_error(error, at, reader.close)
            self.assertIsNone(reader.head())

    def test_the_window_of_the_header(self):
        # A distance of 257, which a window of 256 does not allow.
        data = [7] * 257
        blocks = [(0, 0, 0, 0, 0, data, [0] * 5), (1, 1, 0, 0, 0, [(257, 0, 16, 0)], [])]
        stream = bytes_of(placed(blocks)[0])
        reader = ZlibReader()
        self.assertEqual(reader.feed(zlib_head(8) + stream), data)
        self.assert_error(TooFar, 8 * (2 + 5 + 257) + 3, reader.feed, [])
        self.assertEqual(ZlibReader().feed(zlib_head(24) + stream), data + [7, 7, 7])

    def test_the_head(self):
        for k in range(8):
            for level in range(4):
                reader = ZlibReader()
                reader.feed(zlib_head(8 + 16 * k, level))
                self.assertEqual(reader.head(), (256 << k, level, None))
        reader = ZlibReader(dictionary=[1, 2, 3])
        reader.feed(zlib_head(120, 1, True))
        self.assertEqual(reader.head(), (32768, 1, None))
        reader.feed(highest_first(zlib.adler32(bytes([1, 2, 3]))))
        self.assertEqual(reader.head(), (32768, 1, zlib.adler32(bytes([1, 2, 3]))))

    def test_a_room_of_0_executes_nothing(self):
        reader = ZlibReader()
        self.assertEqual(reader.feed(EMPTY_ZLIB, 0), [])
        self.assertIsNone(reader.head())
        self.assertFalse(reader.ended())
        self.assertFalse(reader.waits())
        self.assert_error(Truncated, 64, reader.close)
        self.assertEqual(reader.feed([], 1), [])
        self.assertTrue(reader.ended())

    def test_the_checksum_behind_the_stream(self):
        text = zlib_text([7] * 20)
        for k in range(1, 5):
            wrong = list(text)
            wrong[-k] ^= 16
            reader = ZlibReader()
            self.assertEqual(reader.feed(wrong[:-1], 6), [7] * 6)
            self.assertEqual(reader.owed(), 14)
            # Bytes are owed, and come before the error, which comes again with each later call.
            self.assertEqual(reader.feed(wrong[-1:]), [7] * 14)
            for more in ([], [], [3]):
                self.assert_error(WrongSum, 8 * (len(text) - 4), reader.feed, more)
            self.assert_error(WrongSum, 8 * (len(text) - 4), reader.close)
            self.assertFalse(reader.ended())
            self.assertEqual(reader.rest(), [])
            self.assertEqual(reader.given(), 20)

    def test_bytes_owed_before_an_error_of_the_stream(self):
        text = zlib_text([7] * 20)[:2] + [2, 5, 0, 250, 255, 1, 2, 3, 4, 5, 7]
        text[2] = 0
        reader = ZlibReader()
        self.assertEqual(reader.feed(text, 2), [1, 2])
        self.assertEqual(reader.feed([], 3), [3, 4, 5])
        for room in (3, 0, None):
            self.assert_error(BadKind, 8 * 12 + 1, reader.feed, [], room)

    def test_the_limit(self):
        text = zlib_text([1, 2, 3, 4, 5, 6], 0)
        for limit in (1, 4, 5):
            reader = ZlibReader(limit=limit)
            self.assertEqual(reader.feed(text), [1, 2, 3, 4, 5, 6][:limit])
            self.assert_error(TooMuch, 8 * (7 + limit), reader.feed, [])
        self.assert_error(TooMuch, 56, ZlibReader(limit=0).feed, text)
        self.assertEqual(ZlibReader(limit=6).feed(text), [1, 2, 3, 4, 5, 6])
        reader = ZlibReader()
        reader.feed(zlib_text([1] * 4097, 9))
        with self.assertRaises(TooMuch):
            reader.feed([])
        self.assertEqual(len(ZlibReader(limit=65536).feed(zlib_text([1] * 65536, 9))), 65536)

    def test_copies(self):
        text = zlib_text([1, 2, 3] * 50, 9, [1, 2, 3])
        for size in range(len(text)):
            reader = ZlibReader(dictionary=[1, 2, 3])
            first = reader.feed(text[:size])
            copy = reader.copy()
            self.assertEqual(first + copy.feed(text[size:]), [1, 2, 3] * 50)
            self.assertTrue(copy.ended())
            self.assertFalse(reader.ended())
            self.assertEqual(reader.given(), len(first))
            self.assertEqual(first + reader.feed(text[size:]), [1, 2, 3] * 50)

    def test_it_copies_what_it_is_given(self):
        dictionary = [1, 2, 3]
        text = zlib_text([1, 2, 3] * 4, 9, dictionary)
        reader = ZlibReader(dictionary=dictionary)
        asking = ZlibReader()
        self.assert_error(NeedsDictionary, 16, asking.feed, text[:6])
        asking.set_dictionary(dictionary)
        dictionary.clear()
        part = text[6:]
        self.assertEqual(asking.feed(part), [1, 2, 3] * 4)
        part.clear()
        self.assertEqual(reader.feed(text), [1, 2, 3] * 4)
        self.assertEqual(asking.rest(), [])


class DictionaryTest(Case):
    def setUp(self):
        self.dictionary = [5, 6, 7, 8]
        self.data = [5, 6, 7, 8] * 5
        self.text = zlib_text(self.data, 9, self.dictionary)
        self.head = (32768, self.text[1] // 64, zlib.adler32(bytes(self.dictionary)))

    def test_asked_for_and_given(self):
        for size in (6, 7, len(self.text)):
            reader = ZlibReader()
            self.assert_error(NeedsDictionary, 16, reader.feed, self.text[:size])
            self.assert_error(NeedsDictionary, 16, reader.feed, [])
            self.assert_error(NeedsDictionary, 16, reader.close)
            self.assertFalse(reader.waits())
            self.assertEqual(reader.head(), self.head)
            for other in ([], [5, 6, 7], [1]):
                self.assert_error(WrongDictionary, 16, reader.set_dictionary, other)
                self.assert_error(NeedsDictionary, 16, reader.feed, [], 0)
            self.assertIsNone(reader.set_dictionary(self.dictionary))
            self.assertEqual(reader.feed(self.text[size:]), self.data)
            self.assertTrue(reader.ended())
            self.assertEqual(reader.head(), self.head)

    def test_the_unit_is_executed_at_once(self):
        reader = ZlibReader()
        self.assert_error(NeedsDictionary, 16, reader.feed, self.text)
        reader.set_dictionary(self.dictionary)
        self.assertEqual(reader.owed(), 0)
        self.assert_error(NotNow, 0, reader.set_dictionary, self.dictionary)
        self.assertEqual(reader.feed([], 0), [])
        self.assertEqual(reader.feed([], 3), self.data[:3])

    def test_an_empty_dictionary(self):
        text = zlib_head(120, 2, True) + [0, 0, 0, 1] + EMPTY_ZLIB[2:]
        reader = ZlibReader()
        self.assert_error(NeedsDictionary, 16, reader.feed, text)
        self.assert_error(WrongDictionary, 16, reader.set_dictionary, [0])
        reader.set_dictionary([])
        self.assertEqual(reader.feed([]), [])
        self.assertTrue(reader.ended())
        reader = ZlibReader(dictionary=[])
        self.assertEqual(reader.feed(text), [])
        self.assertTrue(reader.ended())

    def test_not_now_in_every_other_state(self):
        reader = ZlibReader()
        for byte in self.text[:5]:
            self.assert_error(NotNow, 0, reader.set_dictionary, self.dictionary)
            reader.feed([byte])
        self.assert_error(NotNow, 0, reader.set_dictionary, self.dictionary)
        reader = ZlibReader(dictionary=self.dictionary)
        for byte in self.text:
            self.assert_error(NotNow, 0, reader.set_dictionary, self.dictionary)
            reader.feed([byte])
        self.assert_error(NotNow, 0, reader.set_dictionary, self.dictionary)

    def test_not_now_for_a_text_without_one(self):
        reader = ZlibReader()
        for byte in EMPTY_ZLIB:
            self.assert_error(NotNow, 0, reader.set_dictionary, [])
            reader.feed([byte])
        self.assert_error(NotNow, 0, reader.set_dictionary, [])

    def test_not_now_if_a_wrong_one_was_given(self):
        for wrong in ([], [1]):
            reader = ZlibReader(dictionary=wrong)
            self.assertEqual(reader.feed(self.text[:5]), [])
            for more in (self.text[5:], [], []):
                self.assert_error(WrongDictionary, 16, reader.feed, more)
                self.assert_error(NotNow, 0, reader.set_dictionary, self.dictionary)
            self.assert_error(WrongDictionary, 16, reader.close)

    def test_not_now_behind_another_error(self):
        reader = ZlibReader()
        self.assert_error(WrongHeader, 8, reader.feed, [120, 188 ^ 1, 0, 0, 0, 1])
        self.assert_error(NotNow, 0, reader.set_dictionary, [])

    def test_a_copy_asks_for_itself(self):
        reader = ZlibReader()
        self.assert_error(NeedsDictionary, 16, reader.feed, self.text)
        copy = reader.copy()
        copy.set_dictionary(self.dictionary)
        self.assertEqual(copy.feed([]), self.data)
        self.assert_error(NeedsDictionary, 16, reader.feed, [])
        reader.set_dictionary(self.dictionary)
        self.assertEqual(reader.feed([]), self.data)

    def test_a_dictionary_that_is_not_asked_for(self):
        reader = ZlibReader(dictionary=[1, 2, 3])
        # The copy would lead into it.
        self.assert_error(TooFar, 16 + 3, reader.feed, [120, 156, 3, 2, 0, 0])


class GzipReaderTest(Case):
    def test_members_byte_by_byte(self):
        first = ((True, 9, 8, 7, [1], [2], [3], True), [1, 2, 3])
        second = (PLAIN, [])
        third = ((False, 0, 0, 0, None, [], None, False), [4] * 30)
        parts = [plain_member(deflated(data), data, *header) for header, data in (first, second, third)]
        text = sum(parts, [])
        ends = {len(parts[0]), len(parts[0] + parts[1]), len(text)}
        heads = [len(plain_header(*first[0])), len(parts[0]) + 10, len(parts[0] + parts[1]) + 11]
        members = [(first[0], 0, 0), (PLAIN, 8 * len(parts[0]), 3), (third[0], 8 * len(parts[0] + parts[1]), 3)]
        reader = GzipReader()
        found = []
        for index in range(len(text) + 1):
            self.assertEqual(reader.ended(), index in ends)
            self.assertEqual(reader.waits(), index not in ends)
            if index in ends:
                self.assertIsNone(reader.close())
            else:
                self.assert_error(Truncated, 8 * index, reader.close)
            self.assertEqual(reader.members(), members[:sum(head <= index for head in heads)])
            self.assertEqual(reader.given(), len(found))
            found += reader.feed(text[index:index + 1])
        self.assertEqual(found, first[1] + third[1])

    def test_each_error_as_soon_as_its_byte_is_there(self):
        check = plain_header(False, 0, 0, 0, [1], None, None, True)
        texts = [([0], WrongMagic, 0), ([31, 1], WrongMagic, 8), ([31, 139, 7], WrongMethod, 16),
                 ([31, 139, 8, 32], WrongFlags, 24), (check[:-1] + [check[-1] ^ 1], WrongHeader, 8 * len(check) - 16),
                 (EMPTY_GZIP[:12] + [0, 0, 0, 1], WrongSum, 96), (EMPTY_GZIP[:19] + [1], WrongLength, 128),
                 (EMPTY_GZIP[:10] + [7], BadKind, 81)]
        for before in ([], EMPTY_GZIP):
            for text, error, at in texts:
                reader = GzipReader()
                self.assertEqual(reader.feed(before + text[:-1]), [])
                self.assertEqual(reader.ended(), before != [] and len(text) == 1)
                at_all = at + 8 * len(before)
                self.assert_error(error, at_all, reader.feed, text[-1:])
                self.assert_error(error, at_all, reader.feed, [1, 2], 0)
                self.assert_error(error, at_all, reader.close)
                self.assertFalse(reader.ended())
                self.assertFalse(reader.waits())

    def test_it_goes_on_after_its_end(self):
        reader = GzipReader()
        self.assertFalse(reader.ended())
        self.assertTrue(reader.waits())
        self.assert_error(Truncated, 0, reader.close)
        for k in range(3):
            self.assertEqual(reader.feed(member_of([k])), [k])
            self.assertTrue(reader.ended())
            self.assertFalse(reader.waits())
            self.assertEqual(reader.feed([31]), [])
            self.assertFalse(reader.ended())
            self.assertTrue(reader.waits())
            self.assertEqual(reader.feed(EMPTY_GZIP[1:]), [])
            self.assertTrue(reader.ended())
        self.assert_error(WrongMagic, 8 * 3 * (20 + len(member_of([0]))), reader.feed, [0])
        self.assertFalse(reader.ended())

    def test_rooms(self):
        text = member_of([1] * 300) + member_of([2, 3])
        for room in (1, 2, 5, 299, 300, 301, 302, 400):
            reader = GzipReader()
            found = reader.feed(text, room)
            while part := reader.feed([], room):
                self.assertLessEqual(len(part), room)
                self.assertLessEqual(reader.owed(), 257)
                found += part
            self.assertEqual(found, [1] * 300 + [2, 3])
            self.assertTrue(reader.ended())
        reader = GzipReader()
        for _ in range(3):
            self.assertEqual(reader.feed(text, 0), [])
            self.assertEqual(reader.members(), [])
            self.assertFalse(reader.waits())
        self.assertEqual(reader.feed([]), ([1] * 300 + [2, 3]) * 3)

    def test_the_limit_over_all_members(self):
        text = member_of([1, 2, 3], 0) + EMPTY_GZIP + member_of([4, 5], 0)
        reader = GzipReader(limit=5)
        self.assertEqual(reader.feed(text), [1, 2, 3, 4, 5])
        self.assertTrue(reader.ended())
        reader = GzipReader(limit=4)
        self.assertEqual(reader.feed(text), [1, 2, 3, 4])
        self.assert_error(TooMuch, 8 * (len(text) - 9), reader.feed, [])
        reader = GzipReader()
        self.assertEqual(len(reader.feed(member_of([1] * 4000) + member_of([1] * 96))), 4096)
        with self.assertRaises(TooMuch):
            reader.feed(member_of([1]))
        self.assertEqual(len(GzipReader(limit=65536).feed(member_of([1] * 65536))), 65536)

    def test_new_lists(self):
        header = (False, 0, 0, 0, [1], [2], [3], False)
        reader = GzipReader()
        part = plain_member(deflated([7] * 5), [7] * 5, *header)
        reader.feed(part)
        part.clear()
        self.assert_new_list(reader.members)
        for field in reader.members()[0][0][4:7]:
            field.append(9)
        self.assertEqual(reader.members(), [(header, 0, 0)])

    def test_copies(self):
        text = plain_member(deflated([1, 2]), [1, 2], True, 0, 0, 0, [1], [2], [3], True) + member_of([3] * 40)
        for size in range(len(text)):
            reader = GzipReader()
            first = reader.feed(text[:size])
            copy = reader.copy()
            members = copy.members()
            self.assertEqual(first + reader.feed(text[size:]), [1, 2] + [3] * 40)
            self.assertEqual(copy.members(), members)
            self.assertEqual(first + copy.feed(text[size:]), [1, 2] + [3] * 40)
            self.assertEqual(copy.members(), reader.members())


if __name__ == "__main__":
    unittest.main()
