"""The state and the plan of a log as bytes (points 808 to 810)."""

from bellows.errors import BellowsError, WrongLog
from bellows.base.steps import get_steps, put_steps
from bellows.inflate.whole import MOST_LIMIT
from bellows.log.records import deflated
from bellows.wraps.fields import highest_first, lowest_first, number_lowest_first
from bellows.wraps.gzips import gzip_member, member_at, plain_header

SLOT_SIZE = 64
EMPTY_STATE = (0, 0, 0, 0, 0, 0, 0, 0, 1)

_SLOT_START = (77, 65, 82, 75)
_NUMBERS = 9
_WIDTH = 4
_ZEROS = 20

_SEGMENT_NUMBERS = 7
_PLAN_LEVEL = 9


def write_slot(state):
    """The bytes of the slot of a state."""
    slot = list(_SLOT_START)
    for number in state:
        slot += lowest_first(number, _WIDTH)
    return slot + [0] * _ZEROS + highest_first(state[0], _WIDTH)


def read_state(data):
    """The state, from the bytes of `mark`."""
    best = EMPTY_STATE
    for start in (0, SLOT_SIZE):
        state = _read_slot(data[start:start + SLOT_SIZE])
        if state is not None and slot_start(state[0]) == start and state[0] > best[0]:
            best = state
    return best


def slot_start(turn):
    """The index at which the slot of a turn begins."""
    if turn % 2 == 1:
        return 0
    return SLOT_SIZE


def write_plan(segments):
    """The bytes of the file of a plan."""
    data = put_steps(len(segments))
    for segment in segments:
        for number in segment:
            data += put_steps(number)
    return gzip_member(plain_header(), deflated(data, _PLAN_LEVEL), data)


def read_plan(data):
    """The segments of a plan, from the bytes of its file."""
    try:
        header, content, after = member_at(data, 0, limit=MOST_LIMIT)
        segments, end = _read_segments(content)
    except BellowsError:
        raise WrongLog(0) from None
    if header != plain_header() or after < len(data) or end < len(content):
        raise WrongLog(0)
    return segments


def _read_slot(slot):
    """The state of a slot, None if it is not valid."""
    numbers = slot[len(_SLOT_START):len(_SLOT_START) + _NUMBERS * _WIDTH]
    state = [number_lowest_first(numbers[index:index + _WIDTH]) for index in range(0, len(numbers), _WIDTH)]
    if len(state) != _NUMBERS or write_slot(state) != slot:
        return None
    return tuple(state)


def _read_segments(content):
    """The segments that step numbers describe, and the index behind these."""
    count, at = get_steps(content, 0)
    segments = []
    while len(segments) < count:
        numbers = []
        for _ in range(_SEGMENT_NUMBERS):
            number, at = get_steps(content, at)
            numbers.append(number)
        segments.append(tuple(numbers))
    return (segments, at)
