"""Opening a log (point 812)."""

from bellows.errors import BellowsError, WrongLog
from bellows.log.jobs import Job
from bellows.log.ledger import MARK, Ledger, empty_ledger, plan_name, requests_to_remove, segment_name
from bellows.log.mark import EMPTY_STATE, SLOT_SIZE, read_plan, read_state
from bellows.log.records import read_header

_HEADER_READ = 64


class Opening(Job):
    """Reads the state, removes what does not belong to it, and reads the headers of all members."""

    def __init__(self):
        Job.__init__(self, empty_ledger())
        self._state = EMPTY_STATE
        self._names = []
        # The segments that are not checked yet.
        self._stretches = []
        # Where the next member of the first of these begins, None while its size is not known.
        self._at = None
        # The numbers of the next entry and the next batch.
        self._numbers = None
        self.ask([("names",)])

    def use(self, request, value):
        """Go on with an answer."""
        word = request[0]
        if word == "names":
            self._use_names(value)
        elif word == "size":
            self._use_size(request[1], value)
        elif word == "read":
            self._use_bytes(request[1], value)
        if self.is_idle():
            self._go_on()

    def _use_names(self, names):
        self._names = list(names)
        if MARK in names:
            self.ask([("read", MARK, 0, 2 * SLOT_SIZE)])
        else:
            self._use_state(EMPTY_STATE)

    def _use_size(self, name, size):
        if name == plan_name(self._state[1]):
            self.ask([("read", name, 0, size)])
        else:
            self._use_segment_size(name, size)

    def _use_bytes(self, name, data):
        if name == MARK:
            self._use_state(read_state(data))
        elif name == plan_name(self._state[1]):
            self._use_plan_bytes(data)
        else:
            self._use_header(data)

    def _use_state(self, state):
        self._state = state
        if state[1] == 0:
            self._use_plan([])
        else:
            self._ask_size(plan_name(state[1]), state[1])

    def _ask_size(self, name, identifier):
        if name in self._names:
            self.ask([("size", name)])
        else:
            self._fail_at(identifier)

    def _use_plan_bytes(self, data):
        try:
            segments = read_plan(data)
        except WrongLog:
            self._fail_at(self._state[1])
            return
        self._use_plan(segments)

    def _use_plan(self, segments):
        self.ledger = Ledger(self._state, segments, {})
        self._stretches = [Stretch(segment) for segment in segments]
        if self.ledger.has_active():
            self._stretches.append(active_stretch(self._state))
        if self._stretches != []:
            self._numbers = self._stretches[0].first
        used = self.ledger.names()
        self.ask(requests_to_remove([name for name in self._names if name not in used]))

    def _go_on(self):
        """Ask for what is needed next: a size or a header; or end."""
        if self._at is not None and self._at == self._stretches[0].extent:
            self._end_stretch()
            if self.outcome is not None:
                return
        if self._stretches == []:
            self._conclude()
            return
        identifier = self._stretches[0].identifier
        if self._at is None:
            self._ask_size(segment_name(identifier), identifier)
        else:
            count = min(_HEADER_READ, self._stretches[0].extent - self._at)
            self.ask([("read", segment_name(identifier), self._at, count)])

    def _use_segment_size(self, name, size):
        stretch = self._stretches[0]
        if size < stretch.extent or (size > stretch.extent and not stretch.is_active):
            self._fail_at(stretch.identifier)
            return
        if size > stretch.extent:
            self.ask([("cut", name, stretch.extent), ("sync", name)])
        self._at = 0
        self.ledger.contents[stretch.identifier] = []

    def _use_header(self, data):
        stretch = self._stretches[0]
        try:
            entry, count, batch, batches, size = read_header(data)
        except BellowsError:
            self._fail_at(stretch.identifier)
            return
        after = (entry + count, batch + batches)
        goes_on = (entry, batch) == self._numbers and (self._at > 0 or self._numbers == stretch.first)
        if not goes_on or not stretch.has_place(self._at, size) or not stretch.reaches(after):
            self._fail_at(stretch.identifier)
            return
        self.ledger.contents[stretch.identifier].append((self._at, size, entry, count))
        self._numbers = after
        self._at += size

    def _end_stretch(self):
        """Leave the first segment, of which all members were read."""
        if self._numbers != self._stretches[0].behind:
            self._fail_at(self._stretches[0].identifier)
            return
        self._stretches = self._stretches[1:]
        self._at = None

    def _conclude(self):
        ends = (self._state[6], self._state[7])
        if self._numbers is not None and self._numbers != ends:
            self._fail_at(self._state[1])
        else:
            self.succeed((self.ledger.first_entry(), self.ledger.next_entry()))

    def _fail_at(self, identifier):
        self.fail("WrongLog", identifier)


class Stretch:
    """What a segment must have: a size, and the pairs of an entry and a batch from and up to which it goes."""

    def __init__(self, segment):
        self.identifier, entry, entries, batch, batches, _, self.extent = segment
        self.first = (entry, batch)
        self.behind = (entry + entries, batch + batches)
        self.is_active = False

    def has_place(self, at, size):
        """Whether a member of a size may begin at an index."""
        return 0 < size <= self.extent - at

    def reaches(self, numbers):
        """Whether the numbers behind a member are not beyond those behind the segment."""
        return numbers[0] <= self.behind[0] and numbers[1] <= self.behind[1]


def active_stretch(state):
    """What the active segment of a state must have."""
    _, _, active, size, entry, batch, next_entry, next_batch, _ = state
    stretch = Stretch((active, entry, next_entry - entry, batch, next_batch - batch, 0, size))
    stretch.is_active = True
    return stretch
