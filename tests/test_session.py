"""Points 901 to 903, and bellows/desk/session.py."""

import gzip
import unittest
import zlib

from bellows.deflate.machine import Deflater
from bellows.desk.session import Session
from bellows.errors import (
    BellowsError, Finished, InvalidFlush, InvalidLevel, InvalidStrategy, InvalidWindow,
)
from bellows.inflate.machine import Inflater
from bellows.wraps.feeding import GzipReader, ZlibReader
from checks import Case, numbers, some_bytes
from texts import highest_first, lowest_first, plain_header, zlib_head

WRAPPERS = ("raw", "zlib", "gzip")


class PlainSession:
    """Points 901 and 902, one after the other."""

    def __init__(self, wrapper, level, strategy, window, dictionary):
        self.wrapper = wrapper
        self.writer = Deflater(level=level, strategy=strategy, window=window, before=dictionary)
        self.data = []
        self.channel = []
        self.all = []
        if wrapper == "raw":
            self.reader = Inflater(dictionary)
        elif wrapper == "zlib":
            self.reader = ZlibReader(dictionary=dictionary or None)
            bits = min(k for k in range(8, 16) if 2 ** k >= window)
            self.put(zlib_head(8 + 16 * (bits - 8), 2, bool(dictionary)))
            if dictionary:
                self.put(highest_first(zlib.adler32(bytes(dictionary))))
        else:
            self.reader = GzipReader()
            self.put(plain_header())

    def put(self, part):
        self.channel += part
        self.all += part

    def act(self, action):
        if action[0] == "carry":
            part, self.channel = self.channel[:action[1]], self.channel[action[1]:]
            return self.reader.feed(part, action[2])
        if action[0] == "swap":
            self.writer = self.writer.copy()
        else:
            getattr(self.writer, action[0])(*action[1:])
        self.put(self.writer.take())
        if action[0] == "feed":
            self.data += action[1]
        if action[0] == "finish" and self.wrapper == "zlib":
            self.put(highest_first(zlib.adler32(bytes(self.data))))
        if action[0] == "finish" and self.wrapper == "gzip":
            self.put(lowest_first(zlib.crc32(bytes(self.data))) + lowest_first(len(self.data)))
        return None


def outcome(function, *values):
    try:
        return function(*values)
    except BellowsError as error:
        return type(error), error.at


def drained(session, room):
    """What the reader returns until it returns nothing although the channel is empty."""
    found = []
    while True:
        part = session.act(("carry", 2 ** 32 - 1, room))
        found += part
        if not part:
            return found


def some_action(source):
    word = source.choice(["feed"] * 4 + ["flush", "flush", "change", "swap"] + ["carry"] * 5 + ["wrong"])
    if word == "feed":
        return (word, some_bytes(source, source.choice([0, 1, 5, 60]), source.choice([1, 255])))
    if word == "flush":
        return (word, source.randrange(5))
    if word == "change":
        return (word, source.randrange(10), source.randrange(5))
    if word == "carry":
        return (word, source.choice([0, 1, 2, 10, 1000]), source.choice([0, 1, 2, 10, 1000]))
    if word == "wrong":
        return source.choice([("flush", 5), ("flush", -1), ("change", 10, 0), ("change", 0, 5), ("change", -1, 9)])
    return (word,)


class WalkTest(Case):
    """Any actions, compared with the plain session after each of them."""

    def check_same(self, session, plain):
        self.assertEqual(session.pending(), len(plain.channel))
        self.assertEqual(session.owed(), plain.reader.owed())
        self.assertIs(session.ended(), plain.reader.ended())
        self.assertEqual(session.transcript(), plain.all)

    def test_any_actions(self):
        source = numbers(902)
        for _ in range(80):
            wrapper = source.choice(WRAPPERS)
            dictionary = [] if wrapper == "gzip" else source.choice([[], [1], some_bytes(source, 300, 1)])
            options = (wrapper, source.randrange(10), source.randrange(5), source.choice([1, 200, 256, 257, 4096, 32768]),
                       dictionary)
            session, plain = Session(*options), PlainSession(*options)
            self.check_same(session, plain)
            returned = []
            # Whether everything that was fed before must come out.
            flushed = False
            for _ in range(source.randint(1, 40)):
                action = some_action(source)
                before = list(action[1]) if action[0] == "feed" else None
                expected = outcome(plain.act, action)
                self.assertEqual(outcome(session.act, action), expected)
                self.assertEqual(before, action[1] if action[0] == "feed" else None)
                self.check_same(session, plain)
                if action[0] == "carry":
                    returned += expected
                    self.assertLessEqual(len(expected), action[2])
                elif action[0] == "flush" and action[1] in (2, 3, 4):
                    flushed = True
                elif action[0] == "feed" and action[1]:
                    flushed = False
                self.assertEqual(returned, plain.data[:len(returned)])
                if flushed and not session.pending() and action[0] == "carry" and action[2] and not expected:
                    self.assertEqual(returned, plain.data)
            self.assertIsNone(session.act(("finish",)))
            plain.act(("finish",))
            self.check_same(session, plain)
            self.assertFalse(session.ended())
            returned += drained(session, source.choice([1, 3, 1000]))
            self.assertEqual(returned, plain.data)
            self.assertTrue(session.ended())
            self.assertEqual((session.pending(), session.owed()), (0, 0))
            self.check_text(wrapper, session.transcript(), plain.data, dictionary)

    def check_text(self, wrapper, text, data, dictionary):
        """The transcript is a text that Python reads, too."""
        if wrapper == "gzip":
            self.assertEqual(list(gzip.decompress(bytes(text))), data)
        else:
            bits = -15 if wrapper == "raw" else 15
            reader = zlib.decompressobj(bits, bytes(dictionary)) if dictionary else zlib.decompressobj(bits)
            self.assertEqual(list(reader.decompress(bytes(text))), data)


class SessionTest(Case):
    def test_what_enters_the_channel_at_first(self):
        self.assertEqual(Session("raw", 6, 0, 32768, []).transcript(), [])
        self.assertEqual(Session("raw", 6, 0, 32768, [1]).transcript(), [])
        self.assertEqual(Session("gzip", 6, 0, 32768, []).transcript(), [31, 139, 8, 0, 0, 0, 0, 0, 0, 255])
        self.assertEqual(Session("zlib", 6, 0, 32768, []).transcript(), [120, 156])
        self.assertEqual(Session("zlib", 6, 0, 32768, [1, 2]).transcript(), [120, 187, 0, 6, 0, 4])
        session = Session("gzip", 6, 0, 32768, [])
        self.assertEqual((session.pending(), session.owed(), session.ended()), (10, 0, False))

    def test_the_window_of_a_zlib_text(self):
        for window, wide in [(1, 256), (255, 256), (256, 256), (257, 512), (512, 512), (513, 1024), (16384, 16384),
                             (16385, 32768), (32767, 32768), (32768, 32768)]:
            head = Session("zlib", 1, 0, window, []).transcript()
            self.assertEqual(2 ** (head[0] // 16 + 8), wide)
            self.assertEqual(head, zlib_head(head[0], 2))

    def test_the_text_of_a_session(self):
        expected = {"raw": [75, 132, 3, 0], "zlib": [120, 156, 75, 132, 3, 0] + highest_first(zlib.adler32(b"a" * 10)),
                    "gzip": plain_header() + [75, 132, 3, 0] + lowest_first(zlib.crc32(b"a" * 10)) + [10, 0, 0, 0]}
        for wrapper in WRAPPERS:
            session = Session(wrapper, 1, 0, 32768, [])
            self.assertIsNone(session.act(("feed", [97] * 10)))
            self.assertIsNone(session.act(("finish",)))
            self.assertEqual(session.transcript(), expected[wrapper])
            self.assertEqual(session.pending(), len(expected[wrapper]))
            self.assertEqual(drained(session, 4), [97] * 10)
            self.assertTrue(session.ended())
            # What was carried stays in the transcript.
            self.assertEqual(session.transcript(), expected[wrapper])
        self.assert_new_list(session.transcript)

    def test_errors_of_the_encoder_when_it_is_made(self):
        for wrapper in WRAPPERS:
            self.assert_error(InvalidLevel, 10, Session, wrapper, 10, 5, 0, [])
            self.assert_error(InvalidLevel, -1, Session, wrapper, -1, 0, 32768, [])
            self.assert_error(InvalidStrategy, 5, Session, wrapper, 9, 5, 0, [])
            self.assert_error(InvalidWindow, 0, Session, wrapper, 9, 4, 0, [])
            self.assert_error(InvalidWindow, 32769, Session, wrapper, 9, 4, 32769, [])

    def test_errors_of_the_actions(self):
        for wrapper in WRAPPERS:
            session = Session(wrapper, 6, 0, 32768, [])
            session.act(("feed", [1, 2, 3]))
            before = session.transcript()
            for error, at, action in [(InvalidFlush, 5, ("flush", 5)), (InvalidFlush, -1, ("flush", -1)),
                                      (InvalidLevel, 10, ("change", 10, 9)), (InvalidStrategy, 9, ("change", 9, 9))]:
                self.assert_error(error, at, session.act, action)
                self.assertEqual(session.transcript(), before)
            session.act(("finish",))
            before = session.transcript()
            for action in (("feed", [1]), ("feed", []), ("flush", 0), ("flush", 9), ("change", 6, 0), ("change", 10, 0),
                           ("finish",)):
                self.assert_error(Finished, 3, session.act, action)
                self.assertEqual(session.transcript(), before)
            self.assertIsNone(session.act(("swap",)))
            self.assertEqual(drained(session, 5), [1, 2, 3])
            self.assertTrue(session.ended())

    def test_rooms(self):
        for wrapper in WRAPPERS:
            session = Session(wrapper, 9, 0, 32768, [])
            session.act(("feed", [7] * 300))
            session.act(("flush", 3))
            size = session.pending()
            self.assertEqual(session.act(("carry", size, 0)), [])
            self.assertEqual((session.pending(), session.owed()), (0, 0))
            self.assertEqual(session.act(("carry", 0, 1)), [7])
            self.assertEqual(session.act(("carry", 5, 2)), [7, 7])
            # A copy was executed: what it produced is owed.
            self.assertGreater(session.owed(), 100)
            self.assertEqual(session.act(("carry", 0, 0)), [])
            self.assertEqual(session.act(("carry", 1000, 1000)), [7] * 297)
            self.assertEqual(session.act(("carry", 1000, 1000)), [])
            self.assertFalse(session.ended())

    def test_byte_by_byte(self):
        for wrapper in WRAPPERS:
            session = Session(wrapper, 6, 0, 32768, [])
            found = []
            for k in range(30):
                session.act(("feed", [k % 3]))
                if k % 7 == 6:
                    session.act(("flush", 1 + k % 4))
                found += session.act(("carry", 1, 1))
            session.act(("finish",))
            while session.pending():
                found += session.act(("carry", 1, 1))
            self.assertEqual(found + drained(session, 1), [k % 3 for k in range(30)])
            self.assertTrue(session.ended())

    def test_everything_after_a_flush(self):
        for wrapper in WRAPPERS:
            for kind in (2, 3, 4):
                session = Session(wrapper, 6, 0, 32768, [])
                data = []
                for k in range(4):
                    part = some_bytes(numbers(k), 50, 2)
                    session.act(("feed", part))
                    session.act(("flush", kind))
                    data = drained(session, 7)
                    self.assertEqual(data, part)

    def test_a_dictionary(self):
        dictionary = some_bytes(numbers(901), 200)
        for wrapper in ("raw", "zlib"):
            session = Session(wrapper, 9, 0, 32768, dictionary)
            plain = Session(wrapper, 9, 0, 32768, [])
            for one in (session, plain):
                one.act(("feed", dictionary))
                one.act(("finish",))
            self.assertLess(len(session.transcript()) + 100, len(plain.transcript()))
            self.assertEqual(drained(session, 9), dictionary)

    def test_what_is_given_is_copied(self):
        dictionary, data = [1, 2, 3, 4], [1, 2, 3, 4] * 3
        for wrapper in ("raw", "zlib"):
            given, fed = list(dictionary), list(data)
            session = Session(wrapper, 9, 0, 32768, given)
            given.clear()
            session.act(("feed", fed))
            fed.clear()
            session.act(("finish",))
            self.assertEqual(drained(session, 9), data)

    def test_a_swap_changes_nothing(self):
        for wrapper in WRAPPERS:
            first, second = (Session(wrapper, 6, 0, 32768, []) for _ in range(2))
            for k in range(10):
                for session in (first, second):
                    session.act(("feed", [k, 1, 2, 3]))
                    if k == 5:
                        session.act(("flush", 2))
                self.assertIsNone(second.act(("swap",)))
            for session in (first, second):
                session.act(("finish",))
            self.assertEqual(first.transcript(), second.transcript())


if __name__ == "__main__":
    unittest.main()
