"""Points 601 to 604, and bellows/wraps/zlibs.py."""

import unittest
import zlib

from bellows.base.sums import adler32
from bellows.deflate.least import deflate_least
from bellows.errors import (
    BadKind, BadStored, BellowsError, Extra, NeedsDictionary, OutOfRange, TooFar, TooMuch, Truncated,
    WrongDictionary, WrongHeader, WrongMethod, WrongSum, WrongWindow,
)
from bellows.wraps.zlibs import zlib_read, zlib_whole, zlib_wrap
from checks import Case, numbers, some_bytes
from streams import bytes_of, placed

EMPTY = [120, 156, 3, 0, 0, 0, 0, 1]


def header(method, level=2, dictionary=False):
    """The two bytes of a header that is right, for any method byte."""
    flags = 64 * level + 32 * dictionary
    return [method, flags + (31 - (256 * method + flags) % 31) % 31]


def highest_first(number):
    return list(number.to_bytes(4, "big"))


def written_by_zlib(data, level, dictionary=None, bits=15):
    if dictionary is None:
        writer = zlib.compressobj(level, zlib.DEFLATED, bits)
    else:
        writer = zlib.compressobj(level, zlib.DEFLATED, bits, 8, 0, bytes(dictionary))
    return list(writer.compress(bytes(data)) + writer.flush())


class ReadTest(Case):
    def test_the_example(self):
        self.assertEqual(zlib_read(EMPTY), ([], 8))
        self.assertEqual(zlib_whole(EMPTY), [])
        for function in (zlib_read, zlib_whole):
            self.assert_error(WrongMethod, 0, function, [121] + EMPTY[1:])
            self.assert_error(WrongHeader, 8, function, [120, 157] + EMPTY[2:])
            self.assert_error(WrongSum, 32, function, EMPTY[:-1] + [0])

    def test_texts_of_zlib(self):
        source = numbers(602)
        for size in (0, 1, 300, 4096):
            data = some_bytes(source, size, source.choice([3, 255]))
            for level in (0, 1, 6, 9):
                for bits in (9, 12, 15):
                    text = written_by_zlib(data, level, None, bits)
                    before = list(text)
                    self.assertEqual(zlib_read(text), (data, len(text)))
                    self.assertEqual(zlib_whole(text), data)
                    self.assertEqual(zlib_read(text + [1, 2, 3]), (data, len(text)))
                    self.assertEqual(text, before)

    def test_texts_of_zlib_with_a_dictionary(self):
        source = numbers(6021)
        for dictionary in ([1], some_bytes(source, 200, 3)):
            data = dictionary + some_bytes(source, 300, 3)
            text = written_by_zlib(data, 6, dictionary)
            before = list(text), list(dictionary)
            self.assertEqual(zlib_read(text, dictionary=dictionary), (data, len(text)))
            self.assertEqual(zlib_whole(text, dictionary=dictionary), data)
            self.assertEqual((text, dictionary), before)
            self.assert_error(NeedsDictionary, 16, zlib_read, text)
            self.assert_error(NeedsDictionary, 16, zlib_whole, text)
            for other in ([], [2], dictionary + [0]):
                self.assert_error(WrongDictionary, 16, zlib_read, text, dictionary=other)
                self.assert_error(WrongDictionary, 16, zlib_whole, text, dictionary=other)

    def test_an_empty_list_is_a_dictionary(self):
        text = header(120, 2, True) + [0, 0, 0, 1] + [3, 0] + [0, 0, 0, 1]
        self.assertEqual(zlib_read(text, dictionary=[]), ([], 12))
        self.assert_error(NeedsDictionary, 16, zlib_read, text, dictionary=None)
        self.assert_error(WrongDictionary, 16, zlib_read, text, dictionary=[0])

    def test_a_dictionary_that_the_text_does_not_ask_for(self):
        stream = bytes_of(placed([(1, 1, 0, 0, 0, [(257, 0, 0, 0)], [])])[0])
        text = header(120) + stream + highest_first(zlib.adler32(bytes([7, 7, 7])))
        self.assert_error(TooFar, 19, zlib_read, text, dictionary=[7])
        self.assertEqual(zlib_read(EMPTY, dictionary=[1, 2]), ([], 8))
        asked = header(120, 2, True) + highest_first(adler32([7])) + text[2:]
        self.assertEqual(zlib_read(asked, dictionary=[7]), ([7, 7, 7], len(asked)))
        self.assert_error(TooFar, 8 * 6 + 3, zlib_read, header(120, 2, True) + [0, 0, 0, 1] + text[2:],
                          dictionary=[])

    def test_every_method_and_flag_byte(self):
        for method in range(256):
            for flags in range(256):
                text = [method, flags] + EMPTY[2:]
                if method % 16 != 8:
                    expected = WrongMethod, 0
                elif method // 16 > 7:
                    expected = WrongWindow, 0
                elif (256 * method + flags) % 31:
                    expected = WrongHeader, 8
                elif flags & 32:
                    expected = NeedsDictionary, 16
                else:
                    self.assertEqual(zlib_read(text), ([], 8))
                    continue
                self.assert_error(*expected, zlib_read, text)

    def test_the_window(self):
        for k in range(8):
            window = 256 << k
            data = list(range(256)) + [0] * (window - 255)
            near = [(0, 0, 0, 0, 0, data[:window], [0] * 5)]
            symbol = 16 + 2 * k - 1
            extra = (1 << symbol // 2 - 1) - 1
            copy = (1, 1, 0, 0, 0, [(257, 0, symbol, extra)], [])
            stream = bytes_of(placed(near + [copy])[0])
            found = data[:window] + [0, 1, 2]
            text = header(8 + 16 * k) + stream + highest_first(zlib.adler32(bytes(found)))
            self.assertEqual(zlib_read(text, limit=65536), (found, len(text)))
            # One farther: the window says that it is too far.
            if k < 7:
                near = [(0, 0, 0, 0, 0, data[:window + 1], [0] * 5)]
                copy = (1, 1, 0, 0, 0, [(257, 0, symbol + 1, 0)], [])
                text = header(8 + 16 * k) + bytes_of(placed(near + [copy])[0]) + [0] * 4
                self.assert_error(TooFar, 16 + 40 + 8 * (window + 1) + 3, zlib_read, text, limit=65536)
                wider = header(24 + 16 * k) + text[2:]
                self.assert_error(WrongSum, 8 * (len(text) - 4), zlib_read, wider, limit=65536)

    def test_errors_of_the_stream(self):
        for behind in ([7] * 9, [7]):
            self.assert_error(BadKind, 17, zlib_read, EMPTY[:2] + behind)
        self.assert_error(BadStored, 40, zlib_read, EMPTY[:2] + [1, 5, 0, 5, 0, 0])
        text = header(120, 2, True) + highest_first(adler32([1])) + [7]
        self.assert_error(BadKind, 49, zlib_read, text, dictionary=[1])

    def test_the_order(self):
        # The header comes before the dictionary, and this before the stream, and all before the sum.
        wrong = [121, 157 | 32, 0, 0, 0, 1, 7]
        self.assert_error(WrongMethod, 0, zlib_read, wrong)
        self.assert_error(WrongMethod, 0, zlib_read, [137, 0])
        self.assert_error(WrongWindow, 0, zlib_read, [136, 0])
        self.assert_error(WrongHeader, 8, zlib_read, [120, 157 | 32])
        with_dictionary = header(120, 2, True)
        self.assert_error(Truncated, 40, zlib_read, with_dictionary + [0, 0, 0])
        self.assert_error(NeedsDictionary, 16, zlib_read, with_dictionary + [0, 0, 0, 9, 7])
        self.assert_error(WrongDictionary, 16, zlib_read, with_dictionary + [0, 0, 0, 9, 7], dictionary=[])
        self.assert_error(BadKind, 49, zlib_read, with_dictionary + [0, 0, 0, 1, 7], dictionary=[])
        self.assert_error(Truncated, 56, zlib_read, EMPTY[:-1])
        self.assert_error(WrongSum, 32, zlib_whole, EMPTY[:-1] + [0, 5])

    def test_both_bytes_are_read_before_either_is_checked(self):
        for method in (120, 121, 136, 0):
            self.assert_error(Truncated, 8, zlib_read, [method])
        self.assert_error(Truncated, 0, zlib_read, [])
        self.assert_error(Truncated, 0, zlib_whole, [])

    def test_every_proper_beginning(self):
        source = numbers(603)
        dictionary = [1, 2, 3]
        for text, named in [(EMPTY, {}), (written_by_zlib(some_bytes(source, 30, 4), 9), {}),
                            (written_by_zlib(some_bytes(source, 30), 0), {}),
                            (written_by_zlib(dictionary * 5, 9, dictionary), {"dictionary": dictionary})]:
            for size in range(len(text)):
                self.assert_error(Truncated, 8 * size, zlib_read, text[:size], **named)
                self.assert_error(Truncated, 8 * size, zlib_whole, text[:size], **named)

    def test_the_bytes_of_the_sum(self):
        text = written_by_zlib([1, 2, 3], 6)
        for k in range(1, 5):
            for bit in range(8):
                wrong = list(text)
                wrong[-k] ^= 1 << bit
                self.assert_error(WrongSum, 8 * (len(text) - 4), zlib_read, wrong)

    def test_bits_between_the_stream_and_the_sum(self):
        for value in range(64):
            self.assertEqual(zlib_read(EMPTY[:3] + [value * 4] + EMPTY[4:]), ([], 8))

    def test_bytes_behind_the_end(self):
        for more in ([0], [1, 2, 3], EMPTY):
            self.assertEqual(zlib_read(EMPTY + more), ([], 8))
            self.assert_error(Extra, 64, zlib_whole, EMPTY + more)

    def test_the_limit(self):
        text = written_by_zlib([5, 6, 7] * 2, 0)
        for function in (zlib_read, zlib_whole):
            function(text, limit=6)
            self.assert_error(TooMuch, 8 * (2 + 5 + 5), function, text, limit=5)
            self.assert_error(TooMuch, 8 * (2 + 5), function, text, limit=0)
        data = [1] * 4096
        self.assertEqual(zlib_whole(written_by_zlib(data, 9)), data)
        for function in (zlib_read, zlib_whole):
            with self.assertRaises(TooMuch):
                function(written_by_zlib(data + [1], 9))
        data = [1] * 65536
        self.assertEqual(zlib_whole(written_by_zlib(data, 9), limit=65536), data)
        # No point names an error for a limit that goes somewhat beyond this.
        self.assertEqual(zlib_whole(written_by_zlib(data + [1], 9), limit=65540), data + [1])

    def test_new_lists(self):
        text = written_by_zlib([1, 2, 3], 0)
        self.assert_new_list(zlib_whole, text)
        first = zlib_read(text)
        self.assertIs(type(first), tuple)
        first[0].append(4)
        self.assertEqual(zlib_read(text)[0], [1, 2, 3])


class WrapTest(Case):
    def test_by_hand(self):
        self.assertEqual(zlib_wrap([3, 0], []), EMPTY)
        self.assertEqual(zlib_wrap([3, 0], [], dictionary=[]), header(120, 2, True) + [0, 0, 0, 1] + EMPTY[2:])
        self.assertEqual(zlib_wrap([9, 8], [1, 2], level=0, window=256),
                         [8, 29, 9, 8] + highest_first(zlib.adler32(bytes([1, 2]))))

    def test_every_header(self):
        for k in range(8):
            for level in range(4):
                for dictionary in (None, [], [1, 2, 3]):
                    text = zlib_wrap([3, 0], [], dictionary=dictionary, window=256 << k, level=level)
                    has = dictionary is not None
                    self.assertEqual(text[:2], header(8 + 16 * k, level, has))
                    self.assertEqual((256 * text[0] + text[1]) % 31, 0)
                    self.assertEqual(text[1] // 32, 2 * level + has)
                    self.assertLess(text[1] % 32, 31)
                    between = highest_first(adler32(dictionary)) if has else []
                    self.assertEqual(text[2:], between + EMPTY[2:])

    def test_out_of_range(self):
        for window in (0, 1, 128, 255, 257, 300, 16385, 32767, 32769, 65536, -256):
            self.assert_error(OutOfRange, 0, zlib_wrap, [3, 0], [], window=window, level=-1)
            self.assert_error(OutOfRange, 0, zlib_wrap, [3, 0], [], window=window)
        for level in (-1, 4, 100):
            self.assert_error(OutOfRange, 1, zlib_wrap, [3, 0], [], level=level)

    def test_what_is_wrapped_is_read(self):
        source = numbers(604)
        for dictionary in (None, [], some_bytes(source, 50, 3)):
            for size in (0, 1, 200):
                data = (dictionary or []) + some_bytes(source, size, 3)
                stream = deflate_least(data, dictionary or [], window=256)
                before = list(stream), list(data), dictionary and list(dictionary)
                text = zlib_wrap(stream, data, dictionary=dictionary, window=256, level=3)
                self.assertEqual((stream, data, dictionary), before)
                self.assertEqual(zlib_whole(text, dictionary=dictionary), data)
                reader = zlib.decompressobj(15, bytes(dictionary)) if dictionary else zlib.decompressobj()
                if dictionary != []:
                    self.assertEqual(list(reader.decompress(bytes(text))), data)

    def test_the_stream_is_not_checked(self):
        text = zlib_wrap([7, 7], [1, 2, 3])
        self.assertEqual(text, [120, 156, 7, 7] + highest_first(zlib.adler32(bytes([1, 2, 3]))))
        with self.assertRaises(BellowsError):
            zlib_read(text)

    def test_new_lists(self):
        self.assert_new_list(zlib_wrap, [3, 0], [])


if __name__ == "__main__":
    unittest.main()
