"""Committing a batch (points 809 and 813)."""

from bellows.log.jobs import Job
from bellows.log.ledger import Ledger, requests_to_commit, requests_to_remove, segment_name
from bellows.log.records import write_member

_LEVEL = 6


class Appending(Job):
    """Appends a member with one batch to the active segment, and commits the new state."""

    def __init__(self, ledger, entries):
        Job.__init__(self, ledger)
        turn, plan, active, size, first_entry, first_batch, entry, batch, following = ledger.marked
        member = write_member(entry, batch, 1, entries, _LEVEL)
        self._is_new = not ledger.has_active()
        if self._is_new:
            active = following
            following += 1
            first_entry = entry
            first_batch = batch
        state = (turn + 1, plan, active, size + len(member), first_entry, first_batch,
                 entry + len(entries), batch + 1, following)
        contents = dict(ledger.contents)
        contents[active] = contents.get(active, []) + [(size, len(member), entry, len(entries))]
        self._after = Ledger(state, ledger.sealed, contents)
        self._first = entry
        self._name = segment_name(active)
        self._size = size
        self._is_refused = False
        self.ask([("write", self._name, size, member), ("sync", self._name)])
        if self._is_new:
            self.ask([("sync_names",)])
        self.ask(requests_to_commit(state))

    def use(self, request, value):
        """Go on with an answer; undo everything if there was no room."""
        if request[0] == "write" and not value:
            self._is_refused = True
            self._undo()
        elif request[0] == "names" and self._name in value:
            self.ask(requests_to_remove([self._name]))
        if self.is_idle():
            self._conclude()

    def _undo(self):
        if self._is_new:
            self.ask_instead([("names",)])
        else:
            self.ask_instead([("cut", self._name, self._size), ("sync", self._name)])

    def _conclude(self):
        if self._is_refused:
            self.fail("NoRoom", 0)
        else:
            self.ledger = self._after
            self.succeed(self._first)
