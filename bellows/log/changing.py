"""Changing the plan: sealing, dropping and merging segments (points 814 to 816)."""

from bellows.errors import BellowsError
from bellows.log.jobs import Job
from bellows.log.ledger import (
    NO_SEGMENT, Ledger, plan_name, requests_to_commit, requests_to_remove, segment_name,
)
from bellows.log.mark import write_plan
from bellows.log.packing import merged_file, read_members


class Changing(Job):
    """Writes the files of another plan, commits a state with it, and removes what is not needed then."""

    def __init__(self, ledger):
        Job.__init__(self, ledger)
        self._after = ledger
        self._new_names = []
        self._is_refused = False

    def use(self, request, value):
        """Go on with an answer."""
        self.use_of_change(request, value)

    def use_of_change(self, request, value):
        """Go on with the answer to a request of `write`; remove the new files if there was no room."""
        if request[0] == "write" and not value:
            self._is_refused = True
            self.ask_instead([("names",)])
        elif request[0] == "names":
            self.ask(requests_to_remove([name for name in self._new_names if name in value]))
        if self.is_idle():
            self._conclude()

    def write(self, after, files):
        """Ask for everything that leads to another ledger; the pairs are names and bytes of new files."""
        plan = after.marked[1]
        if plan != 0:
            files = files + [(plan_name(plan), write_plan(after.sealed))]
        for name, data in files:
            self._new_names.append(name)
            self.ask([("write", name, 0, data), ("sync", name)])
        if files != []:
            self.ask([("sync_names",)])
        self.ask(requests_to_commit(after.marked))
        kept = after.names()
        self.ask(requests_to_remove([name for name in self.ledger.names() if name not in kept]))
        self._after = after

    def _conclude(self):
        if self._is_refused:
            self.fail("NoRoom", 0)
        else:
            self.ledger = self._after
            self.succeed(None)


class Merging(Changing):
    """Makes one segment of several ones that follow each other in the plan."""

    def __init__(self, ledger, first, last):
        Changing.__init__(self, ledger)
        self._first = first
        self._last = last
        # The files of the segments, as far as they were read.
        self._read = []
        self._ask_next()

    def use(self, request, value):
        """Read the segments, and then go on as for any other change."""
        if request[0] == "size":
            self.ask([("read", request[1], 0, value)])
        elif request[0] == "read":
            self._read.append(list(value))
            self._ask_next()
        else:
            self.use_of_change(request, value)

    def _ask_next(self):
        index = self._first + len(self._read)
        if index < self._last:
            self.ask([("size", segment_name(self.ledger.sealed[index][0]))])
        else:
            self._merge()

    def _merge(self):
        group = self.ledger.sealed[self._first:self._last]
        members = []
        for segment, data in zip(group, self._read):
            found = _members_of(data)
            if found is None:
                self.fail("WrongLog", segment[0])
                return
            members.append(found)
        data, places = merged_file(self._read, members)
        identifier = self.ledger.marked[8]
        contents = dict(self.ledger.contents)
        for segment in group:
            del contents[segment[0]]
        contents[identifier] = places
        merged = _merged_segment(group, identifier, len(data))
        sealed = self.ledger.sealed[:self._first] + [merged] + self.ledger.sealed[self._last:]
        after = _with_plan(self.ledger, sealed, self.ledger.marked[2:6], contents, identifier + 1)
        self.write(after, [(segment_name(identifier), data)])


def sealing(ledger):
    """The job that seals the active segment, None if there is none."""
    if not ledger.has_active():
        return None
    _, _, active, size, first_entry, first_batch, entry, batch, following = ledger.marked
    segment = (active, first_entry, entry - first_entry, first_batch, batch - first_batch, 0, size)
    job = Changing(ledger)
    job.write(_with_plan(ledger, ledger.sealed + [segment], NO_SEGMENT, ledger.contents, following), [])
    return job


def dropping(ledger, entry):
    """The job that drops the first segments, of which all entries are below the given one; or None."""
    kept = ledger.sealed
    contents = dict(ledger.contents)
    while kept != [] and kept[0][1] + kept[0][2] <= entry:
        del contents[kept[0][0]]
        kept = kept[1:]
    if len(kept) == len(ledger.sealed):
        return None
    job = Changing(ledger)
    job.write(_with_plan(ledger, kept, ledger.marked[2:6], contents, ledger.marked[8]), [])
    return job


def merging(ledger, ratio):
    """The job that merges the first `ratio` segments in turn of the same rank; None if there are none."""
    ranks = [segment[5] for segment in ledger.sealed]
    for first in range(len(ranks) - ratio + 1):
        if ranks[first:first + ratio] == [ranks[first]] * ratio:
            return Merging(ledger, first, first + ratio)
    return None


def _with_plan(ledger, sealed, active, contents, following):
    """The ledger with other segments, where the plan takes the next identifier unless it is empty."""
    plan = 0
    if sealed != []:
        plan = following
        following += 1
    state = (ledger.marked[0] + 1, plan) + active + ledger.marked[6:8] + (following,)
    return Ledger(state, sealed, contents)


def _merged_segment(group, identifier, size):
    _, first_entry, _, first_batch, _, rank, _ = group[0]
    entries = sum([segment[2] for segment in group])
    batches = sum([segment[4] for segment in group])
    return (identifier, first_entry, entries, first_batch, batches, rank + 1, size)


def _members_of(data):
    """The members of a file, None if it is not a segment."""
    try:
        return read_members(data)
    except BellowsError:
        return None
