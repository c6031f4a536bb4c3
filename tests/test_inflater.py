"""Points 451 to 456, and bellows/inflate/machine.py."""

import unittest
import zlib

from bellows.errors import (
    BadCode, BadCount, BadKind, BadLengths, BadStored, BadSymbol, BellowsError, NotNow, OutOfRange,
    TooFar, TooMuch, Truncated,
)
from bellows.inflate.machine import Inflater, resume
from bellows.inflate.whole import inflate
from checks import Case, numbers, some_bytes
from streams import (
    PlainUnits, block_bits, bytes_of, number_bits, placed, some_block, some_stream, spoilt,
)

MARKER = [0, 0, 255, 255]
ROOMS = [None, None, 0, 1, 2, 3, 10, 300]


class Model:
    """A decoder as points 453, 455 and 456 say it, which reads the whole input anew each time."""

    def __init__(self, dictionary=(), limit=4096, window=32768):
        self.input = []
        self.limit = limit
        self.window = window
        self.owed_bytes = []
        self.returned = []
        self.first_sums = (1, 0)
        self.first_given = 0
        self.searching = False
        self.begin(0, dictionary, 0)

    def begin(self, start, before, made):
        """A stretch of units: up to a marker, or to the end."""
        self.start = start
        self.before = list(before)
        self.made = made
        self.executed = 0
        self.known = None

    def plain(self):
        if self.known is None or self.known[0] != len(self.input):
            found = PlainUnits(self.input, self.start, self.before, self.limit, self.window, self.made)
            self.known = len(self.input), found
        return self.known[1]

    def next_unit(self):
        """ "complete", "incomplete", "none" (the stream has ended), or the error. """
        plain = self.plain()
        if self.executed < len(plain.units):
            return "complete"
        if plain.error is None:
            return "none"
        return "incomplete" if isinstance(plain.error, Truncated) else plain.error

    def find(self):
        for index in range(self.search_from, len(self.input) - 3):
            if self.input[index:index + 4] == MARKER:
                self.searching = False
                made = self.first_given + len(self.returned) + len(self.owed_bytes)
                self.begin(8 * (index + 4), [], made)
                return

    def feed(self, part, room=None):
        self.input += part
        if self.searching:
            self.find()
        while ((room is None or len(self.owed_bytes) < room) and not self.searching
               and self.next_unit() == "complete"):
            self.owed_bytes += self.plain().units[self.executed][1]
            self.executed += 1
        if self.owed_bytes:
            count = len(self.owed_bytes) if room is None else room
            out, self.owed_bytes = self.owed_bytes[:count], self.owed_bytes[count:]
            self.returned += out
            return out
        if not self.searching and isinstance(self.next_unit(), BellowsError):
            raise self.next_unit()
        return []

    def position(self):
        return self.plain().units[self.executed - 1][0] if self.executed else self.start

    def given(self):
        return self.first_given + len(self.returned)

    def owed(self):
        return len(self.owed_bytes)

    def sums(self):
        returned = bytes(self.returned)
        return zlib.adler32(returned, self.first_sums[0]), zlib.crc32(returned, self.first_sums[1])

    def has_ended(self):
        return not self.searching and self.next_unit() == "none"

    def ended(self):
        return self.has_ended() and not self.owed_bytes

    def waits(self):
        if self.owed_bytes or self.has_ended():
            return False
        return self.searching or self.next_unit() == "incomplete"

    def rest(self):
        return self.input[(self.position() + 7) // 8:] if self.has_ended() else []

    def close(self):
        if not self.searching and isinstance(self.next_unit(), BellowsError):
            raise self.next_unit()
        if not self.has_ended():
            raise Truncated(8 * len(self.input))

    def sync(self):
        if self.has_ended():
            raise NotNow(self.position())
        self.search_from = (self.position() + 7) // 8
        self.searching = True
        self.find()
        return not self.searching

    def state(self):
        border = self.executed == 0 or self.plain().units[self.executed - 1][2]
        if self.searching or self.owed_bytes or not border:
            raise NotNow(self.position())
        made = [byte for unit in self.plain().units[:self.executed] for byte in unit[1]]
        return (self.position(), self.given(), (self.before + made)[-32768:]) + self.sums()

    def resumed(self, limit, window):
        """A model that goes on from the state; it must be fed from the byte of the position on."""
        position, given, tail, adler, crc = self.state()
        found = Model((), limit, window)
        found.input = [0] * (position // 8)
        found.first_given = given
        found.first_sums = adler, crc
        found.begin(position, tail, given)
        return found


def outcome(function, *values, **named):
    try:
        return function(*values, **named)
    except BellowsError as error:
        return type(error), error.at


def stream_with_markers(source, reach=0):
    """A stream of blocks between which there are often markers."""
    blocks = []
    at = 0
    made = reach
    many = source.randint(1, 6)
    for k in range(many):
        if source.random() < 0.4:
            blocks.append((0, 0, 0, 0, 0, [], [0] * (-(at + 3) % 8)))
            made = 0 if source.random() < 0.7 else made
        else:
            block, more = some_block(source, 0, at, made)
            blocks.append(block)
            made += more
        at += sum(map(len, block_bits(blocks[-1])))
    blocks.append((1, 1, 0, 0, 0, [], []))
    return bytes_of(placed(blocks)[0], source.choice("01"))


class WalkTest(Case):
    """Any calls in any order, compared with the model after each of them."""

    def check_same(self, decoder, model):
        for name in ("position", "given", "owed", "sums", "ended", "waits", "rest", "close", "state"):
            self.assertEqual(outcome(getattr(decoder, name)), outcome(getattr(model, name)), name)

    def walk(self, source, stream, decoder, model, syncs):
        at = 0
        calm = 0
        while calm < 6:
            part = stream[at:at + source.choice([0, 1, 1, 2, 5, 40])]
            at += len(part)
            room = source.choice(ROOMS)
            before = list(part)
            first = outcome(model.feed, part, room)
            self.assertEqual(outcome(decoder.feed, part, room), first)
            self.assertEqual(part, before)
            self.check_same(decoder, model)
            if source.random() < syncs:
                self.assertEqual(outcome(decoder.sync), outcome(model.sync))
                self.check_same(decoder, model)
            calm = calm + 1 if at >= len(stream) else 0
        return decoder

    def test_whole_streams(self):
        source = numbers(451)
        for _ in range(60):
            dictionary = some_bytes(source, source.choice([0, 5]))
            stream, _, end = some_stream(source, 0, len(dictionary))
            stream = stream + some_bytes(source, source.choice([0, 0, 3]))
            decoder = Inflater(dictionary, limit=65536)
            self.walk(source, stream, decoder, Model(dictionary, 65536), 0)
            while decoder.owed():
                decoder.feed([], 1000)
            self.assertEqual(decoder.position(), end)

    def test_spoilt_streams_limits_and_windows(self):
        source = numbers(452)
        for _ in range(120):
            dictionary = some_bytes(source, source.choice([0, 5]))
            stream = spoilt(source, some_stream(source, 0, len(dictionary))[0])
            limit = source.choice([65536, 4096, source.randint(0, 60)])
            window = source.choice([32768, source.randint(1, 40)])
            decoder = Inflater(dictionary, limit=limit, window=window)
            self.walk(source, stream, decoder, Model(dictionary, limit, window), 0)

    def test_markers(self):
        source = numbers(456)
        for _ in range(120):
            stream = stream_with_markers(source, 3)
            if source.random() < 0.4:
                stream = spoilt(source, stream)
            limit = source.choice([65536, 65536, source.randint(0, 60)])
            decoder = Inflater([1, 2, 3], limit=limit)
            self.walk(source, stream, decoder, Model([1, 2, 3], limit), source.choice([0.1, 0.5]))

    def test_copies_and_states(self):
        source = numbers(455)
        for _ in range(80):
            stream = stream_with_markers(source, 3)
            decoder, model = Inflater([1, 2, 3], limit=65536), Model([1, 2, 3], 65536)
            cut = source.randrange(len(stream) + 1)
            self.walk(source, stream[:cut], decoder, model, 0.1)
            twin = decoder.copy()
            state = outcome(decoder.state)
            if state[0] is not NotNow:
                limit = source.choice([65536, model.given(), 0])
                window = source.choice([32768, 2])
                other = resume(state, limit=limit, window=window)
                again = model.resumed(limit, window)
                self.check_same(other, again)
                rest = stream[state[0] // 8:]
                self.walk(source, rest, other, again, 0.1)
            self.walk(source, stream[cut:], twin, model, 0.1)
            # The first one was not touched by what its copy and its state went through.
            self.assertEqual(outcome(decoder.state), state)


class FeedTest(Case):
    def test_an_example(self):
        decoder = Inflater()
        self.assertEqual(decoder.feed([75]), [])
        self.assertEqual(decoder.feed([132]), [97])
        self.assertEqual(decoder.feed([3]), [97] * 9)
        self.assertEqual((decoder.ended(), decoder.waits()), (False, True))
        self.assertEqual(decoder.feed([0]), [])
        self.assertEqual((decoder.ended(), decoder.waits(), decoder.position()), (True, False, 30))
        self.assertIsNone(decoder.close())

    def test_a_new_decoder(self):
        decoder = Inflater()
        self.assertEqual((decoder.position(), decoder.given(), decoder.owed()), (0, 0, 0))
        self.assertEqual(decoder.sums(), (1, 0))
        self.assertIs(decoder.ended(), False)
        self.assertIs(decoder.waits(), True)
        self.assertEqual(decoder.rest(), [])
        self.assertEqual(decoder.state(), (0, 0, [], 1, 0))
        self.assert_error(Truncated, 0, decoder.close)
        self.assertEqual(decoder.feed([]), [])
        self.assertEqual(decoder.feed([], 0), [])

    def test_arguments(self):
        for limit in (-1, 65537):
            self.assert_error(OutOfRange, 0, Inflater, limit=limit, window=0)
            self.assert_error(OutOfRange, 0, resume, (0, 0, [], 1, 0), limit=limit, window=0)
        for window in (-1, 0, 32769):
            self.assert_error(OutOfRange, 1, Inflater, [1], limit=0, window=window)
            self.assert_error(OutOfRange, 1, resume, (0, 0, [], 1, 0), limit=0, window=window)
        Inflater([], limit=0, window=1)
        Inflater((), limit=65536, window=32768)
        resume((0, 0, [], 1, 0), limit=0, window=1)

    def test_rooms(self):
        # A literal, a copy of 258, and the end: the copy is one unit, and is owed in part.
        stream = bytes_of(placed([(1, 1, 0, 0, 0, [(97,), (285, 0, 0, 0), (98,)], [])])[0])
        decoder = Inflater()
        self.assertEqual(decoder.feed(stream, 0), [])
        self.assertEqual((decoder.position(), decoder.owed(), decoder.waits()), (0, 0, False))
        self.assertEqual(decoder.feed([], 1), [97])
        self.assertEqual((decoder.position(), decoder.owed()), (11, 0))
        self.assertEqual(decoder.feed([], 1), [97])
        self.assertEqual((decoder.position(), decoder.owed(), decoder.given()), (24, 257, 2))
        self.assertEqual(decoder.feed([], 0), [])
        self.assertEqual((decoder.owed(), decoder.waits(), decoder.ended()), (257, False, False))
        self.assertEqual(decoder.feed([], 256), [97] * 256)
        self.assertEqual((decoder.position(), decoder.owed()), (24, 1))
        self.assertEqual(decoder.feed([], 1), [97])
        self.assertIs(decoder.ended(), False)
        self.assertEqual(decoder.feed([], 5), [98])
        self.assertIs(decoder.ended(), True)

    def test_the_end_is_not_reached_while_the_room_is_full(self):
        decoder = Inflater()
        stream = bytes_of(placed([(0, 1, 0, 0, 0, [1, 2], [0] * 5)])[0])
        self.assertEqual(decoder.feed(stream, 2), [1, 2])
        # The last byte of a stored block ends it, and the stream with it.
        self.assertIs(decoder.ended(), True)
        decoder = Inflater()
        stream = bytes_of(placed([(1, 1, 0, 0, 0, [(1,), (2,)], [])])[0])
        self.assertEqual(decoder.feed(stream, 2), [1, 2])
        self.assertIs(decoder.ended(), False)
        self.assertEqual(decoder.feed([], 0), [])
        self.assertIs(decoder.ended(), False)
        self.assertEqual(decoder.feed([], 1), [])
        self.assertIs(decoder.ended(), True)

    def test_an_ended_stream_with_bytes_owed(self):
        decoder = Inflater([5])
        stream = bytes_of(placed([(1, 1, 0, 0, 0, [(257, 0, 0, 0)], [])])[0])
        decoder.feed(stream + [9, 8], 1)
        self.assertEqual((decoder.owed(), decoder.position()), (2, 15))
        self.assertEqual(decoder.rest(), [])
        self.assertEqual(decoder.feed([7], 4), [5, 5])
        self.assertEqual((decoder.ended(), decoder.rest()), (True, [9, 8, 7]))
        self.assertEqual(decoder.position(), 22)

    def test_bytes_that_are_owed_come_before_the_error(self):
        # Two literals, then the symbol 286.
        stream = bytes_of("110" + "00110001" + "00110010" + "11000110")
        decoder = Inflater()
        self.assertEqual(decoder.feed(stream), [1, 2])
        for room in (None, 0, 1, 7):
            self.assert_error(BadSymbol, 19, decoder.feed, [], room)
            self.assert_error(BadSymbol, 19, decoder.feed, [3], room)
        self.assertEqual(decoder.given(), 2)
        self.assert_error(BadSymbol, 19, decoder.close)
        self.assertEqual((decoder.waits(), decoder.ended(), decoder.rest()), (False, False, []))
        decoder = Inflater()
        self.assertEqual(decoder.feed(stream, 1), [1])
        self.assertEqual(decoder.feed(stream, 0), [])
        self.assertEqual(decoder.feed([], 1), [2])
        self.assert_error(BadSymbol, 19, decoder.feed, [], 0)
        decoder = Inflater([7])
        self.assertEqual(decoder.feed(bytes_of("110" + "0000001" + "00000" + "11000111"), 1), [7])
        self.assertEqual(decoder.feed([], 0), [])
        # Nothing changes that: while bytes are owed, only `close` raises the error.
        self.assert_error(BadSymbol, 15, decoder.close)
        self.assertEqual(decoder.feed([], 1), [7])
        self.assertEqual(decoder.feed([], None), [7])
        self.assert_error(BadSymbol, 15, decoder.feed, [], 0)

    def test_an_error_is_seen_as_soon_as_its_bits_are_there(self):
        for kind, at, bits in [
                (BadKind, 1, "011"), (BadCount, 3, "101" + "11111"), (BadCount, 8, "101" + "0" * 5 + "01111"),
                (BadStored, 24, "100" + "0" * 5 + number_bits(5, 16) + number_bits(5, 16)),
                (BadLengths, 17, "101" + "0" * 10 + "0000" + "001" * 4),
                (BadSymbol, 3, "110" + "11000110"), (BadSymbol, 10, "110" + "0000001" + "11110")]:
            stream = bytes_of(bits)
            decoder = Inflater()
            for byte in stream[:-1]:
                self.assertEqual(decoder.feed([byte]), [])
                self.assertIs(decoder.waits(), True)
            self.assert_error(kind, at, decoder.feed, stream[-1:])
            self.assert_error(kind, at, decoder.feed, [1, 2, 3])
            self.assertIs(decoder.waits(), False)

    def test_the_limit_and_the_window(self):
        stream = bytes_of(placed([(1, 1, 0, 0, 0, [(1,), (2,), (257, 0, 1, 0)], [])])[0])
        decoder = Inflater(limit=4)
        self.assertEqual(decoder.feed(stream), [1, 2])
        self.assert_error(TooMuch, 19, decoder.feed, [])
        self.assert_error(TooMuch, 19, decoder.close)
        decoder = Inflater(limit=5)
        self.assertEqual(decoder.feed(stream), [1, 2, 1, 2, 1])
        decoder = Inflater(limit=1)
        self.assertEqual(decoder.feed(stream), [1])
        self.assert_error(TooMuch, 11, decoder.feed, [])
        decoder = Inflater(limit=0)
        self.assert_error(TooMuch, 3, decoder.feed, stream)
        decoder = Inflater(window=1)
        self.assertEqual(decoder.feed(stream), [1, 2])
        self.assert_error(TooFar, 19, decoder.feed, [])

    def test_input_after_the_end(self):
        decoder = Inflater()
        self.assertEqual(decoder.feed([3]), [])
        self.assertEqual(decoder.rest(), [])
        self.assertEqual(decoder.feed([0, 5]), [])
        self.assertEqual(decoder.rest(), [5])
        self.assertEqual(decoder.feed([6, 7], 1), [])
        self.assertEqual(decoder.rest(), [5, 6, 7])
        self.assertEqual(decoder.feed([]), [])
        self.assertIs(decoder.ended(), True)
        self.assertIsNone(decoder.close())
        self.assert_new_list(decoder.rest)
        self.assertEqual(decoder.position(), 10)

    def test_rest_where_the_stream_ends_with_a_byte(self):
        decoder = Inflater()
        decoder.feed(bytes_of(placed([(0, 1, 0, 0, 0, [1], [0] * 5)])[0]) + [4, 5])
        self.assertEqual((decoder.position(), decoder.rest()), (48, [4, 5]))

    def test_close(self):
        stream = bytes_of(placed([(0, 1, 0, 0, 0, [1, 2], [0] * 5)])[0])
        for size in range(len(stream)):
            decoder = Inflater()
            decoder.feed(stream[:size])
            for _ in range(2):
                self.assert_error(Truncated, 8 * size, decoder.close)
        decoder = Inflater()
        decoder.feed(stream, 1)
        # Complete units that the room left for later do not end the stream.
        self.assert_error(Truncated, 8 * len(stream), decoder.close)
        self.assertEqual(decoder.feed([]), [2])
        self.assertIsNone(decoder.close())

    def test_sums(self):
        source = numbers(453)
        data = some_bytes(source, 100)
        stream = bytes_of(placed([(0, 1, 0, 0, 0, data, [0] * 5)])[0])
        decoder = Inflater([1, 2, 3])
        returned = decoder.feed(stream, 30)
        self.assertEqual(decoder.sums(), (zlib.adler32(bytes(returned)), zlib.crc32(bytes(returned))))
        returned += decoder.feed([])
        self.assertEqual(returned, data)
        self.assertEqual(decoder.sums(), (zlib.adler32(bytes(data)), zlib.crc32(bytes(data))))
        self.assertIs(type(decoder.sums()), tuple)

    def test_the_division_of_the_input_plays_no_part(self):
        source = numbers(454)
        for _ in range(40):
            stream = spoilt(source, some_stream(source)[0])
            results = []
            for size in (1, 3, len(stream) + 1):
                decoder = Inflater(limit=300)
                returned = []
                error = None
                for at in range(0, len(stream), size):
                    try:
                        returned += decoder.feed(stream[at:at + size])
                    except BellowsError as raised:
                        error = type(raised), raised.at
                results.append((returned, decoder.position(), decoder.sums(), outcome(decoder.close)))
                if error is not None:
                    self.assertEqual(error, results[-1][-1])
            self.assertEqual(results[1:], results[:1] * 2)
            whole = outcome(inflate, stream, limit=300)
            expected = results[0][:2] if results[0][-1] is None else results[0][-1]
            self.assertEqual(whole, expected)

    def test_at_most_257_bytes_are_owed(self):
        source = numbers(457)
        for _ in range(40):
            decoder = Inflater(limit=65536)
            stream, _, _ = some_stream(source)
            decoder.feed(stream, 0)
            while not decoder.ended():
                decoder.feed([], source.choice([1, 1, 2, 100]))
                self.assertLessEqual(decoder.owed(), 257)

    def test_what_it_is_given_is_copied(self):
        dictionary = [1, 2, 3]
        part = bytes_of(placed([(1, 1, 0, 0, 0, [(257, 0, 2, 0)], [])])[0])
        decoder = Inflater(dictionary)
        first = list(part[:1])
        decoder.feed(first)
        dictionary[:] = [9, 9, 9]
        first[0] = 0
        out = decoder.feed(part[1:])
        self.assertEqual(out, [1, 2, 3])
        out[0] = 7
        self.assertEqual(decoder.sums(), (zlib.adler32(bytes([1, 2, 3])), zlib.crc32(bytes([1, 2, 3]))))


class StateTest(Case):
    # The second block copies what the first one and the dictionary have.
    BLOCKS = [(1, 0, 0, 0, 0, [(200,)], []), (1, 0, 0, 0, 0, [(257, 0, 1, 0)], []), (1, 1, 0, 0, 0, [(5,)], [])]

    def test_borders(self):
        # The decoder stands at a border if fewer than the three bits of a header are there.
        for many in (4, 5, 6):
            data = [200 + k for k in range(many)]
            bits, blocks = placed([(1, 0, 0, 0, 0, [(one,) for one in data], []),
                                   (1, 1, 0, 0, 0, [(257, 0, 0, 0)], [])])
            border = blocks[0][4]
            self.assertEqual(border, 10 + 9 * many)
            size = (border + 7) // 8
            decoder = Inflater([7])
            for byte in bytes_of(bits)[:size - 1]:
                decoder.feed([byte])
                self.assert_error(NotNow, decoder.position(), decoder.state)
            decoder.feed(bytes_of(bits)[size - 1:size])
            self.assertEqual(decoder.state(), (border, many, [7] + data, zlib.adler32(bytes(data)),
                                               zlib.crc32(bytes(data))))
            decoder.feed(bytes_of(bits)[size:])
            self.assert_error(NotNow, len(bits), decoder.state)

    def test_borders_that_the_room_leaves(self):
        blocks = [(0, 0, 0, 0, 0, [1, 2], [1] * 5), (0, 0, 0, 0, 0, [3], [0] * 5), (1, 1, 0, 0, 0, [], [])]
        decoder = Inflater()
        self.assertEqual(decoder.state(), (0, 0, [], 1, 0))
        decoder.feed(bytes_of(placed(blocks)[0]), 1)
        self.assert_error(NotNow, 48, decoder.state)
        decoder.feed([], 1)
        self.assertEqual(decoder.state()[:3], (56, 2, [1, 2]))
        decoder.feed([], 1)
        self.assertEqual(decoder.state()[:3], (104, 3, [1, 2, 3]))
        decoder.feed([], 1)
        self.assert_error(NotNow, 114, decoder.state)

    def test_no_state_while_bytes_are_owed(self):
        # The stored block is over as soon as its byte is executed; then it is returned.
        stream = bytes_of(placed([(1, 0, 0, 0, 0, [(1,), (257, 0, 0, 0)], []), (1, 1, 0, 0, 0, [], [])])[0])
        decoder = Inflater()
        decoder.feed(stream, 2)
        self.assert_error(NotNow, 23, decoder.state)
        decoder.feed([], 2)
        self.assert_error(NotNow, 23, decoder.state)
        decoder = Inflater()
        decoder.feed(bytes_of(placed([(0, 0, 0, 0, 0, [], [0] * 5)])[0]))
        self.assertEqual(decoder.state(), (40, 0, [], 1, 0))

    def test_a_border_before_a_block_that_is_wrong(self):
        decoder = Inflater()
        self.assert_error(BadKind, 1, decoder.feed, [7])
        self.assertEqual(decoder.state(), (0, 0, [], 1, 0))

    def test_the_tail_has_at_most_32768_bytes(self):
        data = [k % 256 for k in range(32767)]
        blocks = [(0, 0, 0, 0, 0, data, [0] * 5), (0, 0, 0, 0, 0, [5, 6], [0] * 5), (1, 1, 0, 0, 0, [], [])]
        stream = bytes_of(placed(blocks)[0])
        decoder = Inflater([9], limit=65536)
        decoder.feed(stream[:5 + 32767])
        self.assertEqual(decoder.state()[2], [9] + data)
        decoder.feed(stream[5 + 32767:-2])
        self.assertEqual(decoder.state()[1:3], (32769, data[1:] + [5, 6]))

    def test_the_state_is_a_new_tuple_with_a_new_list(self):
        decoder = Inflater([1, 2])
        state = decoder.state()
        self.assertEqual([type(one) for one in state], [int, int, list, int, int])
        other = resume(state)
        state[2].append(3)
        self.assertEqual(decoder.state(), (0, 0, [1, 2], 1, 0))
        self.assertEqual(other.state(), (0, 0, [1, 2], 1, 0))

    def test_resuming_at_every_bit_of_a_byte(self):
        # Blocks of 10 bits move the border through all bits of a byte.
        for many in range(9):
            empty = [(1, 0, 0, 0, 0, [], [])] * many
            bits, _ = placed([(1, 0, 0, 0, 0, [(97,)], [])] + empty + [(1, 1, 0, 0, 0, [(257, 0, 0, 0)], [])])
            stream = bytes_of(bits)
            position = 18 + 10 * many
            state = (position, 1, [97], zlib.adler32(b"a"), zlib.crc32(b"a"))
            decoder = resume(state)
            self.assertEqual((decoder.position(), decoder.given(), decoder.owed()), (position, 1, 0))
            self.assertEqual(decoder.sums(), state[3:])
            self.assertEqual(decoder.state(), state)
            self.assert_error(Truncated, 8 * (position // 8), decoder.close)
            self.assertIs(decoder.waits(), True)
            part = stream[position // 8:]
            part[0] ^= 2 ** (position % 8) - 1
            self.assertEqual(decoder.feed([]), [])
            self.assertEqual(decoder.feed(part[:1]), [])
            self.assert_error(Truncated, 8 * (position // 8 + 1), decoder.close)
            self.assertEqual(decoder.feed(part[1:] + [1, 2]), [97] * 3)
            self.assertEqual((decoder.given(), decoder.ended(), decoder.rest()), (4, True, [1, 2]))
            self.assertEqual(decoder.position(), len(bits))
            self.assertEqual(decoder.sums(), (zlib.adler32(b"aaaa"), zlib.crc32(b"aaaa")))

    def test_errors_behind_a_state_count_from_the_start(self):
        decoder = resume((1003, 50, [1], 1, 0))
        self.assert_error(BadKind, 1004, decoder.feed, [0b00110000])
        decoder = resume((1003, 50, [1], 1, 0))
        self.assert_error(TooFar, 1006, decoder.feed, bytes_of("111" + "010" + "0000001" + "00001"))

    def test_the_limit_counts_from_the_beginning(self):
        stream = bytes_of(placed([(1, 1, 0, 0, 0, [(1,), (2,)], [])])[0])
        state = (0, 10, [], 1, 0)
        self.assertEqual(resume(state, limit=12).feed(stream), [1, 2])
        decoder = resume(state, limit=11)
        self.assertEqual(decoder.feed(stream), [1])
        self.assert_error(TooMuch, 11, decoder.feed, [])
        for limit in (10, 9, 0):
            decoder = resume(state, limit=limit)
            self.assert_error(TooMuch, 3, decoder.feed, stream)
        # Below what was returned, a limit is an error only when a byte is to come.
        self.assertEqual(resume(state, limit=0).feed([3, 0]), [])

    def test_copy(self):
        bits, _ = placed(self.BLOCKS)
        stream = bytes_of(bits)
        first = Inflater([7])
        self.assertEqual(first.feed(stream[:5], 1), [200])
        self.assertEqual(first.feed([], 1), [7])
        second = first.copy()
        self.assertEqual((second.owed(), second.given(), second.sums()), (2, 2, first.sums()))
        self.assertEqual(second.feed(stream[5:]), [200, 7, 5])
        self.assertEqual((first.owed(), first.given(), first.ended(), second.ended()), (2, 2, False, True))
        self.assertEqual(first.feed([], 1), [200])
        self.assertEqual(first.feed([], 1), [7])
        third = first.copy()
        self.assertEqual(first.feed(stream[5:]), [5])
        self.assertEqual(third.position(), 34)
        self.assertEqual(third.feed(stream[5:]), [5])
        self.assertEqual(third.sums(), second.sums())


class SyncTest(Case):
    def setUp(self):
        # Literals, a marker, then a block that copies its own literal.
        self.first = placed([(1, 0, 0, 0, 0, [(1,), (2,)], []), (0, 0, 0, 0, 0, [], [0] * 3)])[0]
        self.second = placed([(1, 1, 0, 0, 0, [(3,), (257, 0, 0, 0)], [])])[0]
        self.stream = bytes_of(self.first) + bytes_of(self.second)
        self.after = len(self.first) // 8
        self.assertEqual(self.stream[self.after - 4:self.after], MARKER)

    def test_a_marker_in_one_part(self):
        for before in (0, 1, 3, self.after):
            decoder = Inflater()
            returned = decoder.feed(self.stream[:before])
            decoder.feed(self.stream[before:self.after], 0)
            self.assertIs(decoder.sync(), before < self.after)
            if before < self.after:
                self.assertEqual(decoder.position(), 8 * self.after)
                self.assertEqual(decoder.state()[:3], (8 * self.after, len(returned), []))
                self.assertEqual(decoder.feed(self.stream[self.after:]), [3] * 4)
                self.assertIs(decoder.ended(), True)
                data = bytes(returned + [3] * 4)
                self.assertEqual(decoder.sums(), (zlib.adler32(data), zlib.crc32(data)))

    def test_the_marker_that_the_decoder_has_passed_does_not_count(self):
        decoder = Inflater()
        self.assertEqual(decoder.feed(self.stream[:self.after]), [1, 2])
        self.assertEqual(decoder.position(), 8 * self.after)
        self.assertIs(decoder.sync(), False)
        self.assertEqual(decoder.position(), 8 * self.after)
        self.assertEqual(decoder.feed(self.stream[self.after:]), [])
        self.assertIs(decoder.ended(), False)

    def test_the_search_begins_at_the_next_byte(self):
        # The next unit begins at bit 3, so the first byte does not belong to the marker.
        decoder = Inflater()
        decoder.feed([0])
        self.assertEqual(decoder.position(), 3)
        self.assertIs(decoder.sync(), False)
        decoder.feed([0, 255, 255])
        self.assertEqual(decoder.position(), 3)
        decoder.feed([0, 0, 255, 255])
        self.assertEqual(decoder.position(), 64)
        decoder = Inflater()
        decoder.feed([0, 0, 255, 255], 0)
        self.assertIs(decoder.sync(), True)
        self.assertEqual(decoder.position(), 32)

    def test_a_marker_across_parts(self):
        for cuts in ([1, 2, 3], [2], [3], [1], [1, 3]):
            decoder = Inflater()
            self.assertIs(decoder.sync(), False)
            self.assertIs(decoder.sync(), False)
            parts = [MARKER[a:b] for a, b in zip([0] + cuts, cuts + [4])]
            decoder.feed([0, 0, 0, 255, 0])
            for part in parts[:-1]:
                self.assertEqual(decoder.feed(part, 0), [])
                self.assertIs(decoder.waits(), True)
                self.assert_error(NotNow, 0, decoder.state)
                self.assertIs(decoder.sync(), False)
            # It is found whatever the room is.
            self.assertEqual(decoder.feed(parts[-1], 0), [])
            self.assertEqual(decoder.position(), 8 * 9)
            self.assertEqual(decoder.state(), (72, 0, [], 1, 0))
            self.assertEqual(decoder.feed(bytes_of(self.second)), [3] * 4)

    def test_the_search_begins_behind_every_bit_of_a_byte(self):
        for bit in range(8):
            decoder = resume((1000 + bit, 0, [], 1, 0))
            decoder.feed(MARKER + MARKER, 0)
            self.assertIs(decoder.sync(), True)
            self.assertEqual(decoder.position(), 1032 if bit == 0 else 1064)

    def test_more_zeros_before_a_marker(self):
        decoder = Inflater()
        decoder.sync()
        for byte in [0, 0, 0, 0, 255]:
            decoder.feed([byte])
        self.assertIs(decoder.sync(), False)
        decoder.feed([255, 3, 0])
        self.assertEqual((decoder.position(), decoder.ended()), (58, True))

    def test_several_markers(self):
        decoder = Inflater()
        decoder.feed(self.stream[:self.after] + self.stream, 0)
        self.assertIs(decoder.sync(), True)
        self.assertEqual(decoder.position(), 8 * self.after)
        self.assertIs(decoder.sync(), True)
        self.assertEqual(decoder.position(), 16 * self.after)
        self.assertEqual(decoder.feed([]), [3] * 4)

    def test_after_an_error(self):
        wrong = [7] + self.stream
        decoder = Inflater()
        self.assert_error(BadKind, 1, decoder.feed, wrong)
        self.assertIs(decoder.sync(), True)
        self.assertEqual(decoder.position(), 8 * self.after + 8)
        self.assertEqual(decoder.feed([]), [3] * 4)
        self.assertIsNone(decoder.close())
        # The error is forgotten also while there is no marker.
        decoder = Inflater()
        self.assert_error(BadKind, 1, decoder.feed, [7])
        self.assertIs(decoder.sync(), False)
        self.assertEqual(decoder.feed([7]), [])
        self.assertEqual(decoder.feed([7], 0), [])
        self.assert_error(Truncated, 24, decoder.close)
        self.assertIs(decoder.waits(), True)

    def test_with_bytes_owed(self):
        stream = bytes_of(placed([(1, 0, 0, 0, 0, [(8,), (258, 0, 0, 0)], [])])[0]) + MARKER
        decoder = Inflater(limit=6)
        self.assertEqual(decoder.feed(stream, 2), [8, 8])
        self.assertIs(decoder.sync(), True)
        self.assertEqual((decoder.owed(), decoder.given(), decoder.position()), (3, 2, 8 * len(stream)))
        self.assert_error(NotNow, 8 * len(stream), decoder.state)
        self.assertEqual(decoder.feed(bytes_of(self.second), 1), [8])
        self.assertEqual(decoder.feed([], 2), [8, 8])
        # The five bytes from before the marker count for the limit.
        self.assertEqual(decoder.feed([], None), [3])
        self.assert_error(TooMuch, 8 * len(stream) + 11, decoder.feed, [])
        decoder = Inflater()
        decoder.feed(stream[:-1], 2)
        self.assertIs(decoder.sync(), False)
        self.assertEqual((decoder.owed(), decoder.waits()), (3, False))
        self.assertEqual(decoder.feed([], 1), [8])
        self.assertEqual(decoder.feed([7, 7]), [8, 8])
        self.assertIs(decoder.waits(), True)
        self.assertEqual(decoder.feed([]), [])

    def test_nothing_before_the_marker_can_be_copied(self):
        copy = bytes_of(placed([(1, 1, 0, 0, 0, [(257, 0, 0, 0)], [])])[0])
        decoder = Inflater([1, 2, 3])
        decoder.feed(self.stream[:self.after - 4])
        decoder.feed(MARKER, 0)
        decoder.sync()
        self.assert_error(TooFar, 8 * self.after + 3, decoder.feed, copy)
        # Without a search, the same marker is an empty block that ends nothing.
        decoder = Inflater([1, 2, 3])
        self.assertEqual(decoder.feed(self.stream[:self.after] + copy), [1, 2, 2, 2, 2])

    def test_a_state_after_a_marker(self):
        stored = bytes_of(placed([(0, 0, 0, 0, 0, [5, 6], [0] * 5)])[0])
        decoder = Inflater([1, 2, 3])
        decoder.feed(self.stream[:2])
        returned = decoder.given()
        decoder.sync()
        decoder.feed(self.stream[2:self.after] + stored)
        position, given, tail, adler, crc = decoder.state()
        self.assertEqual((position, given, tail), (8 * (self.after + len(stored)), returned + 2, [5, 6]))
        data = bytes([1, 2][:returned] + [5, 6])
        self.assertEqual((adler, crc), (zlib.adler32(data), zlib.crc32(data)))

    def test_after_the_end(self):
        decoder = Inflater()
        decoder.feed([3, 0] + MARKER)
        self.assertIs(decoder.ended(), True)
        for _ in range(2):
            self.assert_error(NotNow, 10, decoder.sync)
        self.assertEqual((decoder.rest(), decoder.position()), (MARKER, 10))
        # The end counts even if bytes are owed.
        decoder = Inflater([5])
        decoder.feed(bytes_of(placed([(1, 1, 0, 0, 0, [(257, 0, 0, 0)], [])])[0]), 1)
        self.assertIs(decoder.sync(), False)
        decoder = Inflater([5])
        decoder.feed(bytes_of(placed([(0, 1, 0, 0, 0, [1], [0] * 5)])[0]) + MARKER, 1)
        self.assert_error(NotNow, 48, decoder.sync)

    def test_copies_while_searching(self):
        decoder = Inflater()
        decoder.sync()
        decoder.feed([0, 0, 255])
        twin = decoder.copy()
        self.assertEqual(twin.feed([255] + bytes_of(self.second)), [3] * 4)
        self.assertEqual(decoder.position(), 0)
        self.assertEqual(decoder.feed([255]), [])
        self.assertEqual(decoder.position(), 32)

    def test_resumed_decoders_search_too(self):
        decoder = resume((1003, 4, [1, 2], 1, 0))
        self.assertIs(decoder.sync(), False)
        decoder.feed([0] + MARKER)
        self.assertEqual(decoder.position(), 8 * (125 + 5))
        # The byte in which the border is does not belong to a marker.
        decoder = resume((1003, 4, [1, 2], 1, 0))
        decoder.feed(MARKER, 0)
        self.assertIs(decoder.sync(), False)
        decoder = resume((1000, 4, [1, 2], 1, 0))
        decoder.feed(MARKER, 0)
        self.assertIs(decoder.sync(), True)
        self.assertEqual(decoder.state(), (1032, 4, [], 1, 0))


if __name__ == "__main__":
    unittest.main()
