"""Points 560 to 570, and bellows/deflate/machine.py."""

import unittest
import zlib

from bellows.base.bits import BitWriter
from bellows.copies.expand import expand
from bellows.deflate import machine
from bellows.deflate.blocks import block_size, write_block
from bellows.deflate.levels import settings
from bellows.deflate.machine import Deflater
from bellows.errors import (
    BellowsError, Finished, InvalidAmount, InvalidFlush, InvalidLevel, InvalidPrime, InvalidRoom,
    InvalidStrategy, InvalidTuning, InvalidWindow, TooLate,
)
from bellows.inflate.grammar import block_tokens, read_blocks
from bellows.inflate.machine import Inflater
from bellows.inflate.whole import inflate
from checks import Case, numbers, some_bytes
from test_levels import PlainParser, some_values

BLOCK, PARTIAL, SYNC, FULL = 1, 2, 3, 4


class Model:
    """The machine as points 560 to 567 say it, on top of a plain parser."""

    def __init__(self, level=6, strategy=0, window=32768, room=1024, before=()):
        self.options = (level, strategy, window, room, list(before))
        self.reset()

    def reset(self):
        self.level, self.strategy, self.window, self.room, before = self.options
        self.parser = PlainParser(before, len(before), 0, self.window)
        self.start = len(before)
        self.numbers = settings(self.level)
        self.writer = BitWriter()
        self.buffer = []
        self.written = len(before)
        self.taken = 0
        self.finished = False
        self.calls = 0

    def steps(self, bounded):
        found = self.parser.step(self.numbers, self.strategy, bounded)
        while found is not None:
            for token in found:
                self.buffer.append(token)
                if len(self.buffer) == self.room:
                    self.end_block(0)
            found = self.parser.step(self.numbers, self.strategy, bounded)

    def end_block(self, is_last):
        before = self.parser.history[:self.written]
        data = expand(self.buffer, before)
        at = self.writer.count()
        kinds = [0] if self.level == 0 else [0, 1] if self.strategy == 4 else [0, 1, 2]
        if not self.buffer:
            kinds = [1]
        kind = min(kinds, key=lambda one: (block_size(one, self.buffer, data, at), one))
        write_block(self.writer, kind, self.buffer, data, is_last)
        self.buffer = []
        self.written += len(data)

    def end_all(self):
        self.steps(True)
        if self.buffer:
            self.end_block(0)

    def fed(self):
        return len(self.parser.history) - self.start

    def check_open(self):
        if self.finished:
            raise Finished(self.fed())

    def feed(self, values):
        self.check_open()
        self.parser.history += values
        self.steps(False)

    def flush(self, kind):
        self.check_open()
        if kind not in (0, 1, 2, 3, 4):
            raise InvalidFlush(kind)
        if kind == 0:
            return
        self.calls += 1
        self.end_all()
        if kind == PARTIAL:
            self.writer.put(2, 10)
        if kind in (SYNC, FULL):
            self.writer.put(0, 3)
            self.writer.align()
            self.writer.put(0xFFFF0000, 32)
        if kind == FULL:
            self.parser.low = len(self.parser.history)

    def change(self, level, strategy):
        self.check_open()
        if not 0 <= level <= 9:
            raise InvalidLevel(level)
        if not 0 <= strategy <= 4:
            raise InvalidStrategy(strategy)
        self.calls += 1
        if (level, strategy) != (self.level, self.strategy):
            self.end_all()
            self.level, self.strategy, self.numbers = level, strategy, settings(level)

    def tune(self, chain, nice, patience, good):
        self.check_open()
        for index, (number, least, most) in enumerate([(chain, 1, 4096), (nice, 3, 258), (patience, 3, 258),
                                                       (good, 0, 258)]):
            if not least <= number <= most:
                raise InvalidTuning(index)
        if self.level == 0:
            raise InvalidLevel(0)
        self.calls += 1
        self.end_all()
        self.numbers = (self.numbers[0], chain, nice, patience, good)

    def prime(self, value, count):
        self.check_open()
        if not 0 <= count <= 7 or not 0 <= value < 2 ** count:
            raise InvalidPrime(count)
        if self.fed() or self.writer.count():
            raise TooLate(self.fed())
        self.writer.put(value, count)

    def finish(self):
        self.check_open()
        self.steps(True)
        self.end_block(1)
        self.writer.align()
        self.finished = True

    def ready(self):
        return self.writer.count() // 8 - self.taken

    def take(self, most=None):
        if most is not None and most < 0:
            raise InvalidAmount(most)
        first = self.taken
        self.taken += self.ready() if most is None else min(most, self.ready())
        return self.writer.data()[first:self.taken]

    def report(self):
        return {"fed": self.fed(), "bits": self.writer.count(), "taken": self.taken,
                "front": self.parser.front() - self.start, "floor": self.parser.low - self.start,
                "level": self.level, "strategy": self.strategy, "held": self.parser.copy,
                "tokens": len(self.buffer), "finished": self.finished}


def outcome(function, *values):
    try:
        return function(*values)
    except BellowsError as error:
        return type(error), error.at


def finished(deflater):
    """All integers of a machine that is finished now."""
    deflater.finish()
    return deflater.take()


def whole(values, *options, **named):
    deflater = Deflater(*options, **named)
    deflater.feed(values)
    return finished(deflater)


class WalkTest(Case):
    """Any calls in any order, wrong ones too, drawn from a written seed."""

    def some_call(self, source, values):
        way = source.randrange(20)
        if way < 9:
            count = source.choice([0, 1, 3, 30, 200, 500])
            return "feed", [values.pop() for _ in range(min(count, len(values)))]
        if way < 12:
            return "flush", source.choice([0, 1, 2, 3, 4, 5, -1])
        if way == 12:
            return "change", source.choice([0, 1, 5, 6, 9, 10, -1]), source.choice([0, 0, 1, 2, 3, 4, 5, -1])
        if way == 13:
            return ("tune", source.choice([1, 2, 64, 4096, 0]), source.choice([3, 20, 258, 2]),
                    source.choice([3, 20, 258, 259]), source.choice([0, 4, 258, 259]))
        if way == 14:
            return "prime", source.choice([0, 1, 5]), source.choice([0, 3, 7, 8])
        if way < 18:
            return "take", source.choice([None, 0, 1, 5, 1000, -1])
        if way == 18 and source.random() < 0.3:
            return ("reset",)
        if way == 19 and source.random() < 0.5:
            return ("finish",)
        return ("ready",)

    def check_walk(self, source):
        before = some_values(source, source.choice([0, 0, 100]))
        options = [source.choice([0, 1, 2, 3, 4, 5, 6, 7, 8, 9]), source.choice([0, 0, 0, 1, 2, 3, 4]),
                   source.choice([32768, 1, 5, 300]), source.choice([1024, 4096, 1, 2, 7, 50]), before]
        deflater, model = Deflater(*options), Model(*options)
        values = some_values(source, 1500)
        primed = 0
        taken = []
        for _ in range(source.randint(3, 30)):
            name, *arguments = self.some_call(source, values)
            expected = outcome(getattr(model, name), *arguments)
            kept = [list(one) if isinstance(one, list) else one for one in arguments]
            self.assertEqual(outcome(getattr(deflater, name), *arguments), expected)
            self.assertEqual(arguments, kept)
            if name == "take" and isinstance(expected, list):
                taken += expected
            if name == "reset":
                taken = []
                primed = 0
            if name == "prime" and expected is None:
                primed = max(primed, arguments[1])
            if source.random() < 0.1:
                deflater = deflater.copy()
            self.assertEqual(deflater.report(), model.report())
            self.assertEqual(deflater.ready(), model.ready())
            self.assertLess(model.report()["tokens"], options[3])
            self.assertLess(model.report()["fed"] - model.report()["front"], 578)
        if not model.finished:
            deflater.finish()
            model.finish()
        self.assertEqual(deflater.report(), model.report())
        taken += deflater.take()
        self.assertEqual(taken, model.writer.data())
        data = model.parser.history[model.start:]
        found, end = inflate(taken, primed, before, 65536)
        self.assertEqual(found, data)
        self.assertTrue(0 <= 8 * len(taken) - end < 8)
        count = len(data)
        self.assertLessEqual(len(taken), count + 6 * (count // options[3] + 2 * model.calls + 2))

    def test_walks(self):
        source = numbers(570)
        for _ in range(250):
            self.check_walk(source)

    def test_pieces_and_other_calls_play_no_part(self):
        source = numbers(5701)
        for _ in range(40):
            values = some_values(source, 900)
            options = [source.randrange(10), source.choice([0, 0, 1, 3]), 32768, source.choice([1024, 30])]
            calls = []
            for _ in range(3):
                calls += [("feed", [values.pop() for _ in range(300)]),
                          source.choice([("flush", source.randint(1, 4)), ("change", 3, 0), ("tune", 9, 9, 9, 9)])]
            plain, busy = Deflater(*options), Deflater(*options)
            for name, *arguments in calls:
                outcome(getattr(plain, name), *arguments)
            taken = []
            for name, *arguments in calls:
                if name == "feed":
                    left = arguments[0]
                    while left:
                        size = source.choice([1, 2, 50, 200])
                        busy.feed(left[:size])
                        left = left[size:]
                        taken += busy.take(source.choice([None, 0, 1, 9]))
                        busy.ready()
                        busy.report()["fed"] = -1
                        busy.flush(0)
                        self.spoil(busy)
                        busy.copy().feed([9] * 400)
                        busy.copy().finish()
                else:
                    outcome(getattr(busy, name), *arguments)
            self.assertEqual(taken + finished(busy), finished(plain))

    def spoil(self, deflater):
        """Calls that raise errors, which change nothing."""
        before = deflater.report(), deflater.ready()
        for name, *arguments in [("flush", 7), ("change", 10, 0), ("change", 3, 5), ("tune", 0, 9, 9, 9),
                                 ("prime", 2, 1), ("prime", 0, 0), ("take", -3)]:
            self.assertIs(type(outcome(getattr(deflater, name), *arguments)), tuple)
        self.assertEqual((deflater.report(), deflater.ready()), before)


class BlockTest(Case):
    def test_the_example(self):
        deflater = Deflater(level=1)
        self.assertIsNone(deflater.feed([97] * 10))
        self.assertIsNone(deflater.finish())
        self.assertEqual(deflater.take(), [75, 132, 3, 0])

    def test_nothing(self):
        for level in range(10):
            for strategy in range(5):
                self.assertEqual(whole([], level, strategy), [3, 0])

    def test_a_full_buffer_ends_a_block(self):
        for room in (1, 2, 3, 10):
            values = list(range(10))
            blocks, _ = read_blocks(whole(values, 0, 0, 32768, room))
            sizes = [len(block[5]) for block in blocks]
            self.assertEqual(sizes, [room] * (10 // room) + [10 % room])
            self.assertEqual([block[1] for block in blocks], [0] * (10 // room) + [1])
            self.assertEqual({block[0] for block in blocks[:10 // room]}, {0})
            self.assertEqual(blocks[-1][0], 1 if 10 % room == 0 else 0)

    def test_the_room_counts_tokens(self):
        deflater = Deflater(1, 0, 32768, 2)
        deflater.feed([97] * 10 + list(range(250)) + list(range(80)))
        blocks, _ = read_blocks(finished(deflater))
        self.assertEqual(block_tokens(blocks[0]), [(97,), (9, 1)])
        self.assertEqual(block_tokens(blocks[1]), [(0,), (1,)])

    def test_the_two_tokens_of_one_step_may_fall_into_two_blocks(self):
        values = [1, 2, 3, 9, 2, 3, 4, 5, 6, 8, 7, 1, 2, 3, 4, 5, 6]
        blocks, _ = read_blocks(whole(values, 6, 0, 32768, 11))
        tokens = [block_tokens(block) for block in blocks]
        self.assertEqual([len(one) for one in tokens], [11, 2])
        self.assertEqual(tokens[1], [(1,), (5, 8)])
        blocks, _ = read_blocks(whole(values, 6, 0, 32768, 12))
        tokens = [block_tokens(block) for block in blocks]
        self.assertEqual([len(one) for one in tokens], [12, 1])
        self.assertEqual(tokens[1], [(5, 8)])

    def test_each_kind(self):
        source = numbers(561)
        noise = some_bytes(source, 400)
        skewed = [source.choice([5, 5, 5, 250, 7]) for _ in range(400)]
        for strategy in range(5):
            self.assertEqual(read_blocks(whole(noise, 6, strategy))[0][0][0], 0)
            self.assertEqual(read_blocks(whole([1, 2, 3], 6, strategy))[0][0][0], 1)
            kind = read_blocks(whole(skewed, 6, strategy))[0][0][0]
            self.assertEqual(kind, 1 if strategy == 4 else 2)
            self.assertEqual(read_blocks(whole(skewed, 0, strategy))[0][0][0], 0)
        self.assertEqual(whole([1, 2], 0, 4), [1, 2, 0, 253, 255, 1, 2])

    def test_the_kind_depends_on_the_bit_where_the_block_begins(self):
        # 28 literals of nine bits are as long as a stored block with three fill bits.
        values = [144 + k for k in range(28)]
        for strategy in (0, 4):
            kinds = []
            for count in range(8):
                deflater = Deflater(1, strategy)
                deflater.prime(0, min(count, 7))
                deflater.feed(values)
                kinds.append(read_blocks(finished(deflater), min(count, 7))[0][0][0])
            self.assertEqual(kinds, [1, 1, 0, 0, 0, 0, 1, 1])

    def test_4096_values_in_one_block(self):
        values = some_bytes(numbers(560), 4096)
        for level, strategy in ((0, 0), (6, 2), (9, 0)):
            stream = whole(values, level, strategy, 32768, 4096)
            blocks, _ = read_blocks(stream)
            self.assertEqual([len(block[5]) for block in blocks], [4096, 0])
            self.assertEqual(inflate(stream)[0], values)

    def test_what_others_read(self):
        source = numbers(5611)
        for level in range(10):
            for strategy in range(5):
                values = some_values(source, 2000)
                self.assertEqual(list(zlib.decompress(bytes(whole(values, level, strategy)), -15)), values)


class FlushTest(Case):
    def test_the_kinds(self):
        self.assertEqual((machine.NO, machine.BLOCK, machine.PARTIAL, machine.SYNC, machine.FULL),
                         (0, 1, 2, 3, 4))

    def test_flushes_with_nothing_fed(self):
        for kind, bits, data in [(0, 0, []), (1, 0, []), (2, 10, [2, 0]), (3, 40, [0, 0, 0, 255, 255]),
                                 (4, 40, [0, 0, 0, 255, 255])]:
            deflater = Deflater()
            self.assertIsNone(deflater.flush(kind))
            self.assertEqual(deflater.report()["bits"], bits)
            self.assertEqual(deflater.take(), data[:bits // 8])
            self.assertEqual(deflater.report()["tokens"], 0)

    def test_several_flushes_in_a_row(self):
        deflater = Deflater()
        for bits, kind in [(10, 2), (10, 0), (10, 1), (20, 2), (56, 3), (96, 3), (136, 4), (146, 2), (184, 4)]:
            deflater.flush(kind)
            self.assertEqual(deflater.report()["bits"], bits)
        data = deflater.take()
        self.assertEqual(data[3:7], [0, 0, 255, 255])
        self.assertEqual(data[7:12] + data[12:17], [0, 0, 0, 255, 255] * 2)
        self.assertEqual(len(data), 23)
        self.assertEqual(data[17:], [2, 0, 0, 0, 255, 255])
        self.assertEqual(inflate(data + finished(deflater))[0], [])

    def test_the_bits_of_each_flush_at_each_bit_of_a_byte(self):
        for count in range(8):
            for kind in (1, 2, 3, 4):
                deflater = Deflater(1)
                deflater.prime(0, min(count, 7))
                if count == 7:
                    deflater.flush(PARTIAL)
                deflater.feed([97] * 10)
                start = deflater.report()["bits"]
                deflater.flush(kind)
                expected = BitWriter()
                expected.put(0, min(count, 7))
                if count == 7:
                    expected.put(2, 10)
                self.assertEqual(expected.count(), start)
                write_block(expected, 1, [(97,), (9, 1)], [97] * 10, 0)
                if kind == PARTIAL:
                    for bit in (0, 1, 0, 0, 0, 0, 0, 0, 0, 0):
                        expected.put(bit, 1)
                elif kind in (SYNC, FULL):
                    for bit in (0, 0, 0):
                        expected.put(bit, 1)
                    expected.align()
                    for byte in (0, 0, 255, 255):
                        expected.put(byte, 8)
                self.assertEqual(deflater.report()["bits"], expected.count())
                self.assertEqual(deflater.take(), expected.data()[:expected.count() // 8])
                self.assertEqual(deflater.report()["front"], 10)

    def test_copies_after_a_full_flush(self):
        part = [1, 2, 3, 4, 5, 6, 7, 8]
        for kind, expected in [(1, (16, 8)), (2, (16, 8)), (3, (16, 8)), (4, (1,))]:
            deflater = Deflater(9, 0, 32768, 1024, part)
            deflater.feed(part)
            deflater.flush(kind)
            self.assertEqual(deflater.report()["floor"], 8 if kind == 4 else -8)
            deflater.feed(part + part)
            stream = finished(deflater)
            blocks, _ = read_blocks(stream)
            self.assertEqual(block_tokens(blocks[0]), [(8, 8)])
            self.assertEqual(block_tokens(blocks[-1])[0], expected)
            self.assertEqual(block_tokens(blocks[-1])[-1], (8, 8) if kind == 4 else (16, 8))
            self.assertEqual(inflate(stream, 0, part)[0], part * 3)

    def test_what_follows_a_full_flush_is_a_stream_of_its_own(self):
        source = numbers(562)
        for _ in range(40):
            values = some_values(source, 800)
            cut = source.choice([0, 1, 400, 800])
            deflater = Deflater(source.randrange(10), source.randrange(5), 32768, source.choice([1024, 9]))
            deflater.prime(1, source.randrange(1, 8))
            deflater.feed(values[:cut])
            deflater.flush(FULL)
            self.assertEqual(deflater.report()["bits"] % 8, 0)
            first = deflater.take()
            deflater.feed(values[cut:])
            second = finished(deflater)
            self.assertEqual(inflate(second)[0], values[cut:])

    def test_a_decoder_that_skips_to_the_marker_reads_the_rest(self):
        source = numbers(5622)
        for _ in range(20):
            values = some_values(source, 600)
            cut = source.randint(1, 500)
            deflater = Deflater(source.randrange(1, 10))
            deflater.feed(values[:cut])
            deflater.flush(FULL)
            size = deflater.ready()
            deflater.feed(values[cut:])
            stream = finished(deflater)
            # The first byte is spoilt, so that nothing before the marker can be read.
            stream[0] |= 6
            decoder = Inflater()
            at = 0
            returned = []
            with self.assertRaises(BellowsError):
                decoder.feed(stream[:1])
            found = decoder.sync()
            at = 1
            while at < len(stream):
                part = stream[at:at + source.choice([1, 3, 50])]
                at += len(part)
                returned += decoder.feed(part)
                if not found and decoder.position() > 0:
                    found = True
                    if decoder.position() < 8 * size:
                        # Data may look like a marker: then the search goes on.
                        found = decoder.sync()
            self.assertTrue(found)
            self.assertIsNone(decoder.close())
            self.assertEqual(returned, values[cut:])

    def test_flushed_integers_determine_all_values(self):
        source = numbers(5621)
        for _ in range(60):
            values = some_values(source, source.choice([1, 30, 500]))
            kind = source.choice([2, 3, 4])
            before = some_values(source, source.choice([0, 40]))
            deflater = Deflater(source.randrange(10), source.randrange(5), 32768, source.choice([1024, 5]), before)
            decoder = Inflater(before, limit=65536)
            at = 0
            while at < len(values):
                size = source.choice([1, 10, 300])
                deflater.feed(values[at:at + size])
                deflater.flush(kind)
                at = min(at + size, len(values))
                decoder.feed(deflater.take())
                self.assertEqual(decoder.given(), at)
                self.assertEqual(decoder.sums()[1], zlib.crc32(bytes(values[:at])))

    def test_after_a_block_flush_a_new_machine_would_write_the_same(self):
        source = numbers(5702)
        for _ in range(80):
            before = some_values(source, source.choice([0, 50]))
            options = [source.randrange(10), source.randrange(5), source.choice([32768, 1, 3, 50, 400]),
                       source.choice([1024, 3, 40])]
            tuning = source.choice([None, None, (5, 20, 9, 4)]) if options[0] else None
            deflater = Deflater(*options, before)
            if tuning:
                deflater.tune(*tuning)
            history = list(before)
            for _ in range(source.randint(0, 2)):
                values = some_values(source, source.choice([1, 30, 300]))
                deflater.feed(values)
                history += values
                if source.random() < 0.3:
                    deflater.flush(FULL)
                    history = []
            deflater.flush(BLOCK)
            other = Deflater(*options, history[-options[2]:])
            if tuning:
                other.tune(*tuning)
            other.prime(*self.unfinished(deflater))
            values = some_values(source, 500)
            for one in (deflater, other):
                one.feed(values)
            self.assertEqual(finished(deflater), finished(other))

    def unfinished(self, deflater):
        """The bits of the unfinished integer, as a number, and how many they are."""
        deflater.take()
        count = deflater.report()["bits"] % 8
        twin = deflater.copy()
        twin.finish()
        return twin.take()[0] % 2 ** count, count


class OptionTest(Case):
    def test_options_out_of_range(self):
        for level in (-1, 10):
            self.assert_error(InvalidLevel, level, Deflater, level, 5, 0, 0)
        for strategy in (-1, 5):
            self.assert_error(InvalidStrategy, strategy, Deflater, 0, strategy, 0, 0)
        for window in (-1, 0, 32769):
            self.assert_error(InvalidWindow, window, Deflater, 9, 4, window, 0)
        for room in (-1, 0, 4097):
            self.assert_error(InvalidRoom, room, Deflater, 9, 4, 1, room)

    def test_options_at_their_ends(self):
        values = [1, 2, 1, 2, 1, 2, 1, 2]
        for level in (0, 9):
            for strategy in (0, 4):
                for window in (1, 32768):
                    for room in (1, 4096):
                        stream = whole(values, level, strategy, window, room, [2, 1])
                        self.assertEqual(inflate(stream, 0, [2, 1], 100, window)[0], values)

    def test_the_defaults(self):
        self.assertEqual(Deflater().report()["level"], 6)
        self.assertEqual(Deflater().report()["strategy"], 0)
        values = some_values(numbers(563), 1200)
        self.assertEqual(whole(values), whole(values, 6, 0, 32768, 1024, []))
        noise = some_bytes(numbers(5631), 1100)
        self.assertEqual([len(block[5]) for block in read_blocks(whole(noise))[0]], [1024, 76])

    def test_before(self):
        before = [1, 2, 3, 4, 5]
        deflater = Deflater(6, 0, 32768, 1024, before)
        self.assertEqual((deflater.report()["fed"], deflater.report()["front"], deflater.report()["floor"]),
                         (0, 0, -5))
        before[0] = 9
        deflater.feed([1, 2, 3, 4, 5])
        stream = finished(deflater)
        self.assertEqual(block_tokens(read_blocks(stream)[0][0]), [(5, 5)])
        self.assertEqual(inflate(stream, 0, [1, 2, 3, 4, 5])[0], [1, 2, 3, 4, 5])
        self.assertEqual(block_tokens(read_blocks(whole([1, 2, 3], 6, 0, 2, 9, [1, 2, 3]))[0][0]),
                         [(1,), (2,), (3,)])
        before.append(8)
        self.assertEqual((deflater.report()["fed"], deflater.report()["floor"]), (5, -5))
        deflater.reset()
        deflater.feed([1, 2, 3, 4, 5])
        self.assertEqual(finished(deflater), stream)


class MethodTest(Case):
    def all_calls(self, deflater, n):
        """Each call that is not possible after `finish`, also with arguments that are wrong."""
        for name, *arguments in [("feed", []), ("feed", [1]), ("flush", 0), ("flush", 3), ("flush", 9),
                                 ("change", 6, 0), ("change", 99, 9), ("tune", 9, 9, 9, 9), ("tune", 0, 0, 0, 999),
                                 ("prime", 0, 0), ("prime", 9, 9), ("finish",)]:
            self.assert_error(Finished, n, getattr(deflater, name), *arguments)

    def test_after_finish(self):
        for values in ([], [1, 2, 3], [7] * 500):
            deflater = Deflater()
            deflater.feed(values)
            deflater.finish()
            before = deflater.report()
            self.assertIs(before["finished"], True)
            self.all_calls(deflater, len(values))
            self.assertEqual(deflater.report(), before)
            twin = deflater.copy()
            self.all_calls(twin, len(values))
            self.assertEqual(deflater.take(1) + deflater.take(), twin.take())
            deflater.reset()
            self.assertIs(deflater.report()["finished"], False)
            deflater.feed(values)
            self.assertEqual(finished(deflater), whole(values))

    def test_flush(self):
        deflater = Deflater()
        deflater.feed([1, 2, 3])
        for kind in (-1, 5, 100):
            before = deflater.report()
            self.assert_error(InvalidFlush, kind, deflater.flush, kind)
            self.assertEqual(deflater.report(), before)
        deflater.flush(0)
        self.assertEqual(deflater.report(), before)

    def test_feeding_makes_the_steps_that_are_possible(self):
        deflater = Deflater(0)
        deflater.feed([1] * 319)
        self.assertEqual((deflater.report()["front"], deflater.report()["tokens"]), (0, 0))
        deflater.feed([1])
        self.assertEqual((deflater.report()["front"], deflater.report()["tokens"]), (1, 1))
        deflater.feed([])
        self.assertEqual(deflater.report()["front"], 1)
        self.assertEqual(deflater.report()["bits"], 0)
        deflater.feed([2] * 1023)
        self.assertEqual((deflater.report()["front"], deflater.report()["tokens"]), (1024, 0))
        self.assertEqual(deflater.ready(), 5 + 1024)

    def test_take(self):
        deflater = Deflater(0)
        deflater.feed([1, 2, 3, 4])
        self.assertEqual((deflater.ready(), deflater.take()), (0, []))
        deflater.finish()
        self.assertEqual(deflater.ready(), 9)
        for most in (-1, -100):
            self.assert_error(InvalidAmount, most, deflater.take, most)
        self.assertEqual(deflater.take(0), [])
        self.assertEqual(deflater.take(1), [1])
        self.assertEqual((deflater.ready(), deflater.report()["taken"]), (8, 1))
        self.assertEqual(deflater.take(5), [4, 0, 251, 255, 1])
        self.assertEqual(deflater.take(100), [2, 3, 4])
        self.assertEqual((deflater.take(), deflater.take(4), deflater.ready()), ([], [], 0))
        self.assertEqual(deflater.report()["taken"], 9)

    def test_an_integer_is_ready_with_its_last_bit(self):
        deflater = Deflater()
        deflater.flush(PARTIAL)
        self.assertEqual((deflater.ready(), deflater.report()["bits"]), (1, 10))
        self.assertEqual(deflater.take(), [2])
        for _ in range(3):
            deflater.flush(PARTIAL)
        self.assertEqual((deflater.ready(), deflater.report()["bits"]), (4, 40))

    def test_change(self):
        deflater = Deflater(6, 0)
        deflater.feed([1, 2, 3])
        before = deflater.report()
        self.assertIsNone(deflater.change(6, 0))
        self.assertEqual(deflater.report(), before)
        for level in (-1, 10):
            self.assert_error(InvalidLevel, level, deflater.change, level, 9)
        for strategy in (-1, 5):
            self.assert_error(InvalidStrategy, strategy, deflater.change, 6, strategy)
        self.assertEqual(deflater.report(), before)
        deflater.change(6, 1)
        report = deflater.report()
        self.assertEqual((report["level"], report["strategy"], report["front"], report["tokens"]), (6, 1, 3, 0))
        self.assertEqual(report["bits"], 3 + 24 + 7)
        deflater.change(0, 1)
        self.assertEqual(deflater.report()["bits"], report["bits"])
        deflater.feed([4, 5])
        deflater.change(9, 1)
        blocks, _ = read_blocks(finished(deflater))
        self.assertEqual([block[0] for block in blocks], [1, 0, 1])
        self.assertEqual(block_tokens(blocks[1]), [(4,), (5,)])

    def test_the_old_settings_hold_for_the_values_before_a_change(self):
        part = [1, 2, 3, 4, 5, 6, 7, 8]
        deflater = Deflater(9, 2)
        deflater.feed(part + part)
        deflater.change(9, 0)
        deflater.feed(part)
        blocks, _ = read_blocks(finished(deflater))
        self.assertEqual(block_tokens(blocks[0]), [(one,) for one in part + part])
        self.assertEqual(block_tokens(blocks[1]), [(8, 8)])

    def test_tune(self):
        deflater = Deflater(6)
        deflater.feed([1, 2, 3])
        before = deflater.report()
        good = (64, 96, 24, 8)
        for index, wrong in [(0, 0), (0, 4097), (0, -1), (1, 2), (1, 259), (2, 2), (2, 259), (3, -1), (3, 259)]:
            numbers_of_level = list(good)
            numbers_of_level[index] = wrong
            self.assert_error(InvalidTuning, index, deflater.tune, *numbers_of_level)
            rest = numbers_of_level[:index + 1] + [-5] * (3 - index)
            self.assert_error(InvalidTuning, index, deflater.tune, *rest)
        self.assertEqual(deflater.report(), before)
        for numbers_of_level in ((1, 3, 3, 0), (4096, 258, 258, 258)):
            self.assertIsNone(deflater.tune(*numbers_of_level))
        self.assertEqual((deflater.report()["tokens"], deflater.report()["front"]), (0, 3))
        deflater = Deflater(0)
        deflater.feed([1])
        self.assert_error(InvalidLevel, 0, deflater.tune, *good)
        self.assert_error(InvalidTuning, 3, deflater.tune, 64, 96, 24, 259)
        self.assertEqual(deflater.report()["bits"], 0)

    # Candidates at the three distances 5, 10 and 16, of which the farther ones give the longer copies.
    VALUES = [1, 2, 3, 4, 5, 0, 1, 2, 3, 4, 9, 1, 2, 3, 8, 6]
    MORE = [1, 2, 3, 4, 5]

    def copy_after(self, *calls, level=3):
        """The first token of the values behind VALUES, after some calls."""
        deflater = Deflater(level, 0, 32768, 1024, self.VALUES)
        for name, *arguments in calls:
            found = getattr(deflater, name)(*arguments)
            if name == "copy":
                deflater = found
        deflater.feed(self.MORE)
        return block_tokens(read_blocks(finished(deflater))[0][-1])[0]

    def test_how_long_tuning_holds(self):
        tune = ("tune", 1, 258, 258, 0)
        self.assertEqual(self.copy_after(), (5, 16))
        self.assertEqual(self.copy_after(tune), (3, 5))
        self.assertEqual(self.copy_after(("tune", 2, 258, 258, 0)), (4, 10))
        self.assertEqual(self.copy_after(("tune", 3, 4, 3, 0)), (4, 10))
        self.assertEqual(self.copy_after(tune, ("change", 3, 0)), (3, 5))
        self.assertEqual(self.copy_after(tune, ("change", 3, 4)), (5, 16))
        self.assertEqual(self.copy_after(tune, ("change", 6, 0), ("change", 3, 0)), (5, 16))
        self.assertEqual(self.copy_after(tune, ("reset",)), (5, 16))
        self.assertEqual(self.copy_after(tune, ("copy",)), (3, 5))
        self.assertEqual(self.copy_after(tune, ("copy",), ("change", 3, 0)), (3, 5))
        self.assertEqual(self.copy_after(tune, ("copy",), ("reset",)), (5, 16))
        self.assertEqual(self.copy_after(tune, ("flush", 1)), (3, 5))

    def test_tuning_keeps_the_way(self):
        before = [1, 2, 3, 9, 2, 3, 4, 5, 6, 8, 7]
        for level, tokens in [(3, [(3, 11), (3, 8)]), (6, [(1,), (5, 8)])]:
            deflater = Deflater(level, 0, 32768, 1024, before)
            deflater.tune(4096, 258, 258, 0)
            deflater.feed([1, 2, 3, 4, 5, 6])
            self.assertEqual(block_tokens(read_blocks(finished(deflater))[0][0]), tokens)

    def test_prime(self):
        for count in range(8):
            for value in {0, 1, 2 ** count // 2, 2 ** count - 1}:
                if value < 2 ** count:
                    deflater = Deflater(level=1)
                    self.assertIsNone(deflater.prime(value, count))
                    self.assertEqual((deflater.report()["bits"], deflater.ready()), (count, 0))
                    if count > 0:
                        self.assert_error(TooLate, 0, deflater.prime, 0, 0)
                    deflater.feed([97] * 10)
                    stream = finished(deflater)
                    self.assertEqual(stream[0] % 2 ** count, value)
                    self.assertEqual(inflate(stream, count), ([97] * 10, 30 + count))

    def test_prime_out_of_range(self):
        deflater = Deflater()
        for value, count in [(0, -1), (0, 8), (-1, 3), (8, 3), (1, 0), (128, 7), (-1, 0), (5, 100)]:
            self.assert_error(InvalidPrime, count, deflater.prime, value, count)
        self.assertEqual(deflater.report()["bits"], 0)
        deflater.feed([1, 2])
        self.assert_error(InvalidPrime, 8, deflater.prime, 0, 8)

    def test_prime_once_twice_and_too_late(self):
        deflater = Deflater()
        for _ in range(3):
            deflater.prime(0, 0)
        deflater.feed([])
        deflater.flush(BLOCK)
        deflater.change(3, 1)
        deflater.prime(5, 3)
        for value, count in ((0, 0), (1, 1)):
            self.assert_error(TooLate, 0, deflater.prime, value, count)
        self.assertEqual(deflater.report()["bits"], 3)
        for values in ([1], [1, 2, 3]):
            deflater = Deflater()
            deflater.feed(values)
            self.assert_error(TooLate, len(values), deflater.prime, 0, 0)
        deflater = Deflater()
        deflater.flush(PARTIAL)
        self.assert_error(TooLate, 0, deflater.prime, 0, 0)
        deflater.reset()
        deflater.prime(1, 1)
        self.assertEqual(deflater.report()["bits"], 1)

    def test_report(self):
        deflater = Deflater(6, 4, 100, 50, [5, 6])
        expected = {"fed": 0, "bits": 0, "taken": 0, "front": 0, "floor": -2, "level": 6, "strategy": 4,
                    "held": (0, 0), "tokens": 0, "finished": False}
        self.assertEqual(deflater.report(), expected)
        deflater.feed(list(range(40)) + [1, 2, 3, 4] + [200 + k % 50 for k in range(316)])
        report = deflater.report()
        self.assertEqual((report["fed"], report["front"], report["held"], report["tokens"]), (360, 40, (4, 39), 40))
        self.assertIs(type(report["held"]), tuple)
        self.assertIs(report["finished"], False)
        report["fed"] = 0
        self.assertEqual(deflater.report()["fed"], 360)
        deflater.flush(FULL)
        self.assertEqual((deflater.report()["floor"], deflater.report()["front"]), (360, 360))
        deflater.finish()
        report = deflater.report()
        self.assertEqual(report["bits"], 8 * deflater.ready())
        self.assertIs(report["finished"], True)

    def test_copy(self):
        source = numbers(566)
        for _ in range(20):
            values = some_values(source, 900)
            first = Deflater(source.randrange(10), 0, 300, 50, [1, 2, 3])
            first.feed(values[:500])
            first.take(3)
            second = first.copy()
            self.assertEqual(second.report(), first.report())
            second.feed([9] * 400)
            second.take()
            second.change(1, 2)
            second.flush(FULL)
            third = first.copy()
            second.finish()
            for one in (first, third):
                one.feed(values[500:])
            self.assertEqual(finished(first), finished(third))

    def test_reset(self):
        values = some_values(numbers(567), 700)
        expected = whole(values, 4, 1, 50, 30, [1, 2, 3])
        deflater = Deflater(4, 1, 50, 30, [1, 2, 3])
        new = deflater.report()
        deflater.prime(3, 2)
        deflater.feed(values)
        deflater.change(9, 0)
        deflater.tune(3, 3, 3, 3)
        deflater.flush(FULL)
        deflater.take(5)
        self.assertIsNone(deflater.reset())
        self.assertEqual((deflater.report(), deflater.ready()), (new, 0))
        deflater.feed(values)
        self.assertEqual(finished(deflater), expected)
        deflater.reset()
        twin = deflater.copy()
        twin.reset()
        twin.feed(values)
        self.assertEqual(finished(twin), expected)

    def test_lists_are_copied_and_new(self):
        values = [1, 2, 3, 4]
        deflater = Deflater(0)
        deflater.feed(values)
        values[0] = 9
        deflater.finish()
        first = deflater.copy().take()
        self.assertEqual(first[5:], [1, 2, 3, 4])
        second = deflater.copy().take()
        first[0] = 99
        self.assertEqual(deflater.take(), second)


if __name__ == "__main__":
    unittest.main()
