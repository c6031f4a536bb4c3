"""Reading entries of a log (point 817)."""

from bellows.errors import BellowsError
from bellows.log.jobs import Job
from bellows.log.ledger import segment_name
from bellows.log.records import read_member


class Reading(Job):
    """Reads the members that contain entries of a range."""

    def __init__(self, ledger, start, stop):
        Job.__init__(self, ledger)
        self._start = start
        self._stop = stop
        self._entries = []
        # The pairs of a segment and the member of it that is read, in the order of the requests.
        self._sources = []
        if start < ledger.first_entry():
            self.fail("Dropped", ledger.first_entry())
        elif stop > ledger.next_entry():
            self.fail("Absent", ledger.next_entry())
        elif stop < start:
            self.fail("WrongRange", start)
        else:
            self._ask_members()

    def use(self, request, value):
        """Take the entries of a member."""
        identifier, member = self._sources[0]
        self._sources = self._sources[1:]
        entries = _entries_of(value, member)
        if entries is None:
            self.fail("WrongLog", identifier)
            return
        first = member[2]
        self._entries += entries[max(0, self._start - first):self._stop - first]
        if self.is_idle():
            self.succeed(self._entries)

    def _ask_members(self):
        for identifier in self.ledger.identifiers():
            for member in self.ledger.contents[identifier]:
                at, size, first, count = member
                if first < self._stop and self._start < first + count and self._start < self._stop:
                    self._sources.append((identifier, member))
                    self.ask([("read", segment_name(identifier), at, size)])
        if self._sources == []:
            self.succeed([])


def _entries_of(data, member):
    """The entries of a member, None if it is not the one that is known."""
    _, size, first, count = member
    try:
        entry, _, _, entries, after = read_member(data, 0)
    except BellowsError:
        return None
    if (after, entry, len(entries)) != (size, first, count):
        return None
    return entries
