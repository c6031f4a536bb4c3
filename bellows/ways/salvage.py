"""Finding what can still be read of damaged texts (points 715 to 717)."""

from bellows.errors import BellowsError, TooMuch, Truncated
from bellows.base.sums import crc32
from bellows.copies.symbols import MOST_DISTANCE
from bellows.inflate.arriving import MARKER, ArrivingBits
from bellows.inflate.decoding import Decoder
from bellows.inflate.whole import MOST_LIMIT
from bellows.wraps.gzips import check_tail, read_header

_WHOLE = "whole"
_ENDED = "ended"
_CUT = "cut"
_DAMAGED = "damaged"


def starts(text):
    """The pairs of an index at which a stream may begin, and whether a header stands before it."""
    behind_header = {}
    behind_marker = {}
    for index in range(len(text)):
        if text[index:index + len(MARKER)] == list(MARKER):
            behind_marker[index + len(MARKER)] = True
        behind = _index_behind_header(text, index)
        if behind is not None:
            behind_header[behind] = True
    found = []
    for index in range(len(text) + 1):
        if index in behind_header:
            found.append((index, True))
        if index in behind_marker:
            found.append((index, False))
    return found


def salvage(text):
    """The finds `(start, is_member, data, outcome)` that do not merely repeat a part of another one."""
    bits = ArrivingBits(text)
    finds = []
    # The positions from which there is nothing new: another find has passed them, or there is no data.
    passed = {}
    for start, is_member in starts(text):
        if 8 * start not in passed:
            data, outcome, borders, end = _read_from(bits, start)
            if outcome == _ENDED and is_member and _has_tail(text, end, data):
                outcome = _WHOLE
            if data != []:
                finds.append((start, is_member, data, outcome))
            for border in borders:
                passed[border] = True
    return finds


def _index_behind_header(text, index):
    """The index behind the header that begins at an index, None if there is none."""
    try:
        _, behind = read_header(text, index)
    except BellowsError:
        return None
    return behind


def _read_from(bits, start):
    """The data that can be read from an index on, the outcome, the borders that are passed, and the end."""
    decoder = Decoder(8 * start, [], 0, MOST_LIMIT, MOST_DISTANCE)
    data = []
    borders = []
    while not decoder.has_ended():
        place = decoder.position()
        is_border = decoder.is_at_header()
        try:
            unit = decoder.read_unit(bits)
        except Truncated:
            return (data, _CUT, borders, place)
        except TooMuch:
            # What lies behind the limit is found from the borders before it.
            return (data, _DAMAGED, [], place)
        except BellowsError:
            return (data, _DAMAGED, borders, place)
        if is_border:
            borders.append(place)
        data += decoder.execute(unit, bits)
    return (data, _ENDED, borders, decoder.position())


def _has_tail(text, end, data):
    """Whether the checksum and the length of the data stand behind a stream."""
    try:
        check_tail(text, (end + 7) // 8, crc32(data), len(data))
    except BellowsError:
        return False
    return True
