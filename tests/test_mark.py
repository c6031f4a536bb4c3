"""Points 808 to 810, and bellows/log/mark.py."""

import gzip
import unittest

from bellows.errors import WrongLog
from bellows.log.mark import read_plan, read_state, write_plan, write_slot
from checks import Case, numbers
from test_records import plain_steps, plain_stream
from texts import deflated, highest_first, lowest_first, member_of, plain_member

EMPTY = (0, 0, 0, 0, 0, 0, 0, 0, 1)


def plain_slot(state):
    return ([77, 65, 82, 75] + [byte for number in state for byte in lowest_first(number)] + [0] * 20
            + highest_first(state[0]))


def plain_plan_data(segments):
    data = plain_steps(len(segments))
    for segment in segments:
        for number in segment:
            data += plain_steps(number)
    return data


def some_state(source, turn):
    return (turn,) + tuple(source.choice([0, 1, 255, 256, 2 ** 32 - 1, source.randrange(2 ** 32)]) for _ in range(8))


def at_its_place(state):
    """The file `mark` with one slot."""
    return plain_slot(state) if state[0] % 2 else [0] * 64 + plain_slot(state)


class SlotTest(Case):
    def test_slots_of_both_places(self):
        source = numbers(808)
        for turn in (1, 2, 3, 4, 255, 256, 257, 65535, 65536, 2 ** 32 - 1):
            state = some_state(source, turn)
            slot = write_slot(state)
            self.assertEqual(slot, plain_slot(state))
            self.assertEqual(len(slot), 64)
            self.assertEqual(read_state(at_its_place(state)), state)
            # In the other place, it is not valid.
            self.assertEqual(read_state([0] * 64 + slot if turn % 2 else slot), EMPTY)
            self.assertIs(type(read_state(at_its_place(state))), tuple)
        self.assert_new_list(write_slot, EMPTY)

    def test_no_mark(self):
        for data in ([], [0] * 64, [0] * 128, [77, 65, 82, 75], [255] * 128):
            self.assertEqual(read_state(data), EMPTY)

    def test_turn_0_is_no_turn(self):
        self.assertEqual(read_state(plain_slot(EMPTY)), EMPTY)
        self.assertEqual(read_state([0] * 64 + plain_slot((0, 9, 8, 7, 6, 5, 4, 3, 2))), EMPTY)

    def test_the_greater_turn(self):
        source = numbers(8081)
        for odd in (1, 3, 5, 2 ** 32 - 1):
            for even in (2, 4, 6, 2 ** 32 - 2):
                first, second = some_state(source, odd), some_state(source, even)
                data = plain_slot(first) + plain_slot(second)
                before = list(data)
                self.assertEqual(read_state(data), max(first, second))
                self.assertEqual(data, before)
                self.assertEqual(read_state(data + [1, 2, 3]), max(first, second))
                # If the later one is not valid, it is the earlier one.
                at = 0 if odd > even else 64
                data[at + 63] ^= 1
                self.assertEqual(read_state(data), min(first, second))

    def test_cut_at_each_length(self):
        first, second = (1, 0, 1, 50, 0, 0, 2, 1, 2), (2, 0, 1, 90, 0, 0, 3, 2, 2)
        data = plain_slot(first) + plain_slot(second)
        for size in range(129):
            expected = EMPTY if size < 64 else first if size < 128 else second
            self.assertEqual(read_state(data[:size]), expected)
        for size in range(65):
            # Only so many bytes of the next slot were written over an earlier one.
            for turn in (3, 4, 255, 256, 257, 258, 65537):
                old, new = some_state(numbers(turn), turn - 2), some_state(numbers(turn + 1), turn)
                between = some_state(numbers(turn + 2), turn - 1)
                slot = plain_slot(new)[:size] + plain_slot(old)[size:]
                both = slot + plain_slot(between) if turn % 2 else plain_slot(between) + slot
                self.assertEqual(read_state(both), new if size == 64 else between)

    def test_each_byte_changed(self):
        state = (5, 4, 3, 300, 20, 10, 30, 15, 6)
        slot = plain_slot(state)
        for index in range(64):
            for change in (1, 128, 255):
                wrong = list(slot)
                wrong[index] ^= change
                if 8 <= index < 40:
                    numbers_of = [int.from_bytes(bytes(wrong[k:k + 4]), "little") for k in range(4, 40, 4)]
                    self.assertEqual(read_state(wrong), tuple(numbers_of))
                else:
                    self.assertEqual(read_state(wrong), EMPTY)


class PlanTest(Case):
    def plans(self):
        source = numbers(810)
        yield []
        yield [(1, 0, 2, 0, 1, 0, 50)]
        yield [(k + 1, 3 * k, 3, k, 1, 9 - k, 100 + k) for k in range(10)]
        yield [tuple(source.choice([0, 127, 128, 2 ** 32 - 1]) for _ in range(7)) for _ in range(4)]

    def test_written_as_described(self):
        for segments in self.plans():
            before = list(segments)
            data = plain_plan_data(segments)
            found = write_plan(segments)
            self.assertEqual(segments, before)
            self.assertEqual(found, plain_member(plain_stream(data, 9), data))
            self.assertEqual(gzip.decompress(bytes(found)), bytes(data))
            self.assertEqual(read_plan(found), segments)
        self.assert_new_list(write_plan, [])
        self.assert_new_list(read_plan, write_plan([(1, 2, 3, 4, 5, 6, 7)]))

    def test_any_stream(self):
        segments = [(k + 1, 3 * k, 3, k, 1, 9 - k, 100 + k) for k in range(10)]
        data = plain_plan_data(segments)
        for level in range(10):
            self.assertEqual(read_plan(member_of(data, level)), segments)

    def test_many_segments(self):
        segments = [(k, 2 ** 30 + k, 3, 2 ** 29 + k, 1, 0, 5000) for k in range(500)]
        self.assertEqual(read_plan(write_plan(segments)), segments)

    def test_segments_are_not_compared(self):
        segments = [(5, 9, 0, 9, 0, 3, 0), (5, 0, 0, 0, 0, 4, 0)]
        self.assertEqual(read_plan(write_plan(segments)), segments)

    def test_files_that_are_no_plan(self):
        segments = [(1, 0, 2, 0, 1, 0, 50), (3, 2, 2, 1, 1, 0, 60)]
        data = plain_plan_data(segments)
        good = member_of(data)
        self.assertEqual(read_plan(good), segments)
        wrong = [[], [0], good + [0], good + good, good[:-1], good[:-8] + [0] * 8, [1] + good]
        for other in (data[:-1], data + [0], [1] + data[1:], [3] + data[1:], [], [130, 0] + data[1:], [255] * 9,
                      [255] * 8 + [127]):
            wrong.append(member_of(other))
        stream = deflated(data)
        for fields in ((True,), (False, 1), (False, 0, 2), (False, 0, 0, 3), (False, 0, 0, 255, []),
                       (False, 0, 0, 255, None, []), (False, 0, 0, 255, None, None, [1]),
                       (False, 0, 0, 255, None, None, None, True)):
            wrong.append(plain_member(stream, data, *fields))
        for file in wrong:
            self.assert_error(WrongLog, 0, read_plan, file)

    def test_each_byte_changed(self):
        segments = [(1, 0, 2, 0, 1, 0, 50), (3, 2, 2, 1, 1, 0, 60)]
        good = write_plan(segments)
        for index in range(len(good)):
            for change in (1, 64, 255):
                file = list(good)
                file[index] ^= change
                try:
                    self.assertEqual(read_plan(file), segments)
                except WrongLog as error:
                    self.assertEqual(error.at, 0)


if __name__ == "__main__":
    unittest.main()
