"""Points 701 and 715 to 717, and bellows/ways/salvage.py."""

import unittest
import zlib

from bellows.deflate.machine import FULL, SYNC, Deflater
from bellows.errors import BellowsError, TooMuch, Truncated
from bellows.inflate.machine import Inflater
from bellows.ways.salvage import salvage, starts
from checks import Case, numbers, some_bytes
from streams import PlainUnits, bytes_of, placed, spoilt
from texts import Bytes, deflated, lowest_first, member_of, plain_header, plain_member, plain_read_header
from whole import fixed_block, inflated, some_whole, stored_block, whole_of

MARKER = [0, 0, 255, 255]
HEAD = plain_header()


def plain_starts(text):
    found = set()
    for index in range(len(text)):
        if text[index:index + 4] == MARKER:
            found.add((index + 4, False))
        source = Bytes(text, index)
        try:
            plain_read_header(source)
        except BellowsError:
            continue
        found.add((source.at, True))
    return sorted(found, key=lambda pair: (pair[0], not pair[1]))


def plain_find(text, start, is_member):
    """A find, and the borders that it passes as indexes with a fraction of eighths."""
    found = PlainUnits(text[start:], 0, (), 65536)
    outcome = "damaged"
    if found.error is None:
        outcome = "ended"
        after = start + (found.reader.at + 7) // 8
        data = found.output()
        if is_member and text[after:after + 8] == lowest_first(zlib.crc32(bytes(data))) + lowest_first(len(data)):
            outcome = "whole"
    elif isinstance(found.error, Truncated):
        outcome = "cut"
    borders = [0] + [end if border else None for end, _, border in found.units]
    # The last border is passed only if a unit was executed behind it.
    passed = {8 * start + border for border in borders[:-1] if border is not None}
    if isinstance(found.error, TooMuch):
        passed = set()
    return (start, is_member, found.output(), outcome), passed


def plain_salvage(text):
    result = []
    for start, is_member in plain_starts(text):
        find, passed = plain_find(text, start, is_member)
        if find[2] and not any(8 * start in borders for _, borders in result):
            result.append((find, passed))
    return [find for find, _ in result]


def flushed(parts, kind=FULL, level=6):
    """A stream with a flush behind each part but the last."""
    machine = Deflater(level=level)
    for part in parts[:-1]:
        machine.feed(part)
        machine.flush(kind)
    machine.feed(parts[-1])
    machine.finish()
    return machine.take()


class StartsTest(Case):
    def test_by_hand(self):
        self.assertEqual(starts([]), [])
        self.assertEqual(starts(MARKER), [(4, False)])
        self.assertEqual(starts([0] + MARKER + [1]), [(5, False)])
        self.assertEqual(starts(HEAD), [(10, True)])
        self.assertEqual(starts(HEAD[:9]), [])
        self.assertEqual(starts(MARKER[:3]), [])
        self.assertEqual(starts([5] + HEAD + MARKER + HEAD), [(11, True), (15, False), (25, True)])

    def test_one_directly_behind_the_other_and_overlapping(self):
        self.assertEqual(starts(MARKER + MARKER), [(4, False), (8, False)])
        self.assertEqual(starts([0, 0, 0] + MARKER[1:] + [0, 255]), [(6, False)])
        # A header within the name of another one: both are there, and they may end at one index.
        name = HEAD[:3] + [8] + [1] * 6 + [7]
        text = HEAD[:3] + [8] + [1] * 6 + name + [0]
        self.assertEqual(starts(text), [(22, True)])
        # A marker that a header ends with: the same index as a member and as a marker.
        text = plain_header(extra=MARKER)
        self.assertEqual(starts(text), [(16, True), (16, False)])
        text = plain_header(extra=MARKER + [1])
        self.assertEqual(starts(text), [(16, False), (17, True)])

    def test_headers_with_errors(self):
        checked = plain_header(is_checked=True)
        self.assertEqual(starts(checked), [(12, True)])
        for wrong in (checked[:-1] + [checked[-1] ^ 1], [31, 139, 7] + HEAD[3:], HEAD[:3] + [32] + HEAD[4:], [31, 138] + HEAD[2:]):
            self.assertEqual(starts(wrong), [])

    def test_any_texts(self):
        source = numbers(715)
        for _ in range(200):
            text = []
            for _ in range(source.randint(1, 6)):
                text += source.choice([MARKER, MARKER[:2], HEAD, plain_header(name=[1, 2]), HEAD[:4], [0, 255, 255],
                                       plain_header(extra=MARKER, is_checked=True), some_bytes(source, 3, 2)])
            before = list(text)
            self.assertEqual(starts(text), plain_starts(text))
            self.assertEqual(text, before)
        self.assert_new_list(starts, HEAD)


class SalvageTest(Case):
    def test_a_member(self):
        member = member_of([1, 2, 3] * 5)
        self.assertEqual(salvage(member), [(10, True, [1, 2, 3] * 5, "whole")])
        self.assertEqual(salvage([9] * 7 + member + [8]), [(17, True, [1, 2, 3] * 5, "whole")])
        # A wrong checksum, a wrong length, and both cut.
        for index in range(1, 9):
            wrong = list(member)
            wrong[-index] ^= 1
            self.assertEqual(salvage(wrong), [(10, True, [1, 2, 3] * 5, "ended")])
            self.assertEqual(salvage(member[:-index]), [(10, True, [1, 2, 3] * 5, "ended")])

    def test_a_stream_that_is_cut_or_damaged(self):
        text = plain_member([1, 4, 0, 251, 255, 5, 6, 7, 8], [5, 6, 7, 8])
        for size in range(1, 4):
            self.assertEqual(salvage(text[:15 + size]), [(10, True, [5, 6, 7, 8][:size], "cut")])
        damaged = HEAD + [0, 2, 0, 253, 255, 5, 6, 7]
        self.assertEqual(salvage(damaged), [(10, True, [5, 6], "damaged")])
        self.assertEqual(salvage(damaged[:-1]), [(10, True, [5, 6], "cut")])

    def test_finds_without_data(self):
        self.assertEqual(salvage([]), [])
        self.assertEqual(salvage(MARKER), [])
        self.assertEqual(salvage(MARKER * 2), [])
        # Three of them contain a stored block.
        self.assertEqual(salvage(MARKER * 3), [(4, False, [0, 255, 255], "cut")])
        self.assertEqual(salvage(member_of([])), [])
        self.assertEqual(salvage(HEAD + [7]), [])
        self.assertEqual(salvage(MARKER + [3, 0]), [])
        # A find without data is no part of the result: it does not hide another one.
        blocks = [stored_block([]), fixed_block([(1,), (2,)], 1)]
        text = MARKER + whole_of(numbers(1), blocks)
        self.assertEqual(salvage(text), plain_salvage(text))
        self.assertEqual([find[2] for find in salvage(text)], [[1, 2]])

    def test_behind_a_marker(self):
        stream = deflated([4, 5, 6])
        self.assertEqual(salvage([9, 9] + MARKER + stream), [(6, False, [4, 5, 6], "ended")])
        self.assertEqual(salvage(MARKER + stream + lowest_first(zlib.crc32(bytes([4, 5, 6]))) + [3, 0, 0, 0]),
                         [(4, False, [4, 5, 6], "ended")])
        self.assertEqual(salvage(MARKER + MARKER + stream), [(8, False, [4, 5, 6], "ended")])

    def test_borders_that_an_earlier_find_passed(self):
        parts = [[1, 2, 3] * 4, [4] * 9, [1, 2, 3] * 4]
        stream = flushed(parts)
        member = plain_member(stream, sum(parts, []))
        self.assertEqual(len(starts(member)), 3)
        self.assertEqual(salvage(member), [(10, True, sum(parts, []), "whole")])
        # Without its header, the first marker is what is found.
        self.assertEqual([find[1:] for find in salvage(member[10:])], [(False, sum(parts[1:], []), "ended")])
        # Damaged before the first marker: what is behind the markers is found.
        damaged = list(member)
        damaged[10] = 6
        self.assertEqual([find[1:] for find in salvage(damaged)], [(False, sum(parts[1:], []), "ended")])
        # Damaged between the markers.
        at = starts(member)[1][0]
        damaged = list(member)
        damaged[at] = 7
        self.assertEqual([find[2:] for find in salvage(damaged)], [(parts[0], "damaged"), (parts[2], "ended")])

    def test_a_border_is_passed_only_if_a_unit_behind_it_was_executed(self):
        first = flushed([[1, 2], [3]], SYNC)
        at = [start for start, _ in starts(first)][0]
        text = HEAD + first[:at] + [7] + MARKER + deflated([5])
        self.assertEqual(salvage(text), plain_salvage(text))
        self.assertEqual([find[2] for find in salvage(text)], [[1, 2], [5]])

    def test_the_same_start_as_a_member_and_as_a_marker(self):
        head = plain_header(extra=MARKER)
        stream = deflated([7] * 5)
        text = head + stream + lowest_first(zlib.crc32(bytes([7] * 5))) + [5, 0, 0, 0]
        self.assertEqual(starts(text), [(16, True), (16, False)])
        self.assertEqual(salvage(text), [(16, True, [7] * 5, "whole")])

    def test_a_find_that_ends_with_too_much(self):
        bomb = deflated([1] * 65537)
        for head, kinds in [(HEAD, [True]), (MARKER, [False]), (plain_header(extra=MARKER), [True, False])]:
            found = salvage(head + bomb)
            self.assertEqual([find[1] for find in found], kinds)
            for find in found:
                self.assertEqual(find[3], "damaged")
                # A copy is whole or not there at all.
                self.assertEqual(find[2], [1] * len(find[2]))
                self.assertGreater(len(find[2]), 65536 - 258)
        # It passes no border, so what stands behind a marker in it is found again.
        parts = whole_of(numbers(1), [fixed_block([(1,)]), stored_block([]), fixed_block([(2,)]),
                                      stored_block([3] * 65535, 1)])
        text = HEAD + parts
        self.assertEqual([(find[1], len(find[2]), find[3]) for find in salvage(text)],
                         [(True, 65536, "damaged"), (False, 65536, "ended")])
        self.assertEqual(salvage(HEAD + deflated([1] * 65536))[0][3], "ended")

    def test_copies_that_reach_before_the_start(self):
        parts = [[1, 2, 3, 4] * 5, [1, 2, 3, 4] * 5]
        stream = flushed(parts, SYNC)
        [(at, _)] = starts(stream)
        # The second part copies from the first one.
        self.assertEqual(salvage(stream[at - 4:]), plain_salvage(stream[at - 4:]))
        self.assertEqual(salvage(HEAD + stream), [(10, True, parts[0] + parts[1], "ended")])

    def test_any_texts(self):
        source = numbers(716)
        for _ in range(150):
            text = []
            for _ in range(source.randint(1, 4)):
                kind = source.randrange(6)
                if kind == 0:
                    text += MARKER
                elif kind == 1:
                    text += source.choice([HEAD, plain_header(name=[1]), plain_header(extra=MARKER)])
                elif kind == 2:
                    text += some_whole(source, 0, 2)
                elif kind == 3:
                    stream = some_whole(source, 0, 2)
                    text += plain_member(stream, inflated(stream))
                elif kind == 4:
                    parts = [some_bytes(source, source.randint(0, 8), 3) for _ in range(3)]
                    text += source.choice([[], HEAD]) + flushed(parts, source.choice([SYNC, FULL]), source.randrange(10))
                else:
                    text += some_bytes(source, 3)
            if source.random() < 0.5:
                text = spoilt(source, text) if text else text
            before = list(text)
            self.assertEqual(salvage(text), plain_salvage(text))
            self.assertEqual(text, before)

    def test_new_lists(self):
        text = member_of([1, 2])
        self.assert_new_list(salvage, text)
        salvage(text)[0][2].append(3)
        self.assertEqual(salvage(text), [(10, True, [1, 2], "whole")])

    def test_what_stands_behind_a_marker_is_contained_in_a_find(self):
        source = numbers(717)
        checked = 0
        for _ in range(100):
            stream = some_whole(source, 0, 2)
            before = some_bytes(source, source.randint(0, 5), 1)
            if source.random() < 0.5:
                before = source.choice([HEAD, MARKER]) + flushed([[1, 2, 3], [4]], SYNC)[:source.randint(0, 12)]
            text = before + MARKER + stream + some_bytes(source, 3)
            decoder = Inflater(limit=65536)
            data = decoder.feed(stream)
            if data:
                found = [find[2] for find in salvage(text)]
                self.assertTrue(any(data == one[k:k + len(data)] for one in found for k in range(len(one))))
                checked += 1
        self.assertGreater(checked, 50)

    def test_many_markers_take_little_time(self):
        text = [0, 0, 0, 255, 255] * 3000 + deflated([1, 2])
        self.assertEqual(salvage(text), [(5, False, [1, 2], "ended")])
        self.assertEqual(salvage([0, 0, 0, 255, 255] * 3000), [])

    def test_a_stored_block_with_a_member_in_it(self):
        inner = member_of([5, 6, 7])
        text = HEAD + bytes_of(placed([(0, 1, 0, 0, 0, inner, [0] * 5)])[0])
        self.assertEqual(salvage(text), [(10, True, inner, "ended"), (25, True, [5, 6, 7], "whole")])


if __name__ == "__main__":
    unittest.main()
