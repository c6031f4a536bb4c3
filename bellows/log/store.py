"""The log (points 801 to 818)."""

from bellows.errors import Busy, NotOpen
from bellows.log.appending import Appending
from bellows.log.changing import dropping, merging, sealing
from bellows.log.ledger import empty_ledger
from bellows.log.opening import Opening
from bellows.log.reading import Reading

_GOES_ON = ("done", None)


class Log:
    """Carries out operations by requests, which the caller performs on a disk."""

    def __init__(self, *, full=1024, ratio=2):
        self._full = full
        self._ratio = ratio
        self._ledger = empty_ledger()
        self._is_open = False
        self._operation = None
        self._job = None
        self._outcome = None

    def begin(self, operation):
        """Start an operation."""
        if self._operation is not None:
            raise Busy(0)
        if (operation[0] == "open") == self._is_open:
            raise NotOpen(0)
        self._operation = operation
        if operation[0] == "commit":
            self._operation = ("commit", [list(entry) for entry in operation[1]])
        self._begin_jobs()

    def request(self):
        """The request that is due, None if no operation is running."""
        if self._job is None:
            return None
        return self._job.request()

    def answer(self, value):
        """Take the answer to this request."""
        self._job.take_answer(value)
        if self._job.outcome is not None:
            self._end_job(self._job)
            self._begin_jobs()

    def result(self):
        """The outcome of the last operation that ended, None if none has."""
        if self._outcome is None or not isinstance(self._outcome[1], list):
            return self._outcome
        return (self._outcome[0], [list(entry) for entry in self._outcome[1]])

    def entry_range(self):
        """The pair of the first entry and the next one."""
        return (self._ledger.first_entry(), self._ledger.next_entry())

    def segments(self):
        """The segments of the plan."""
        return list(self._ledger.sealed)

    def active(self):
        """The identifier and the size of the active segment, None if there is none."""
        if not self._ledger.has_active():
            return None
        return self._ledger.marked[2:4]

    def _begin_jobs(self):
        """Begin jobs until one of them has a request, or the operation ends."""
        while self._operation is not None:
            job = self._next_job()
            if job is None:
                self._end_operation(_GOES_ON)
            elif job.outcome is None:
                self._job = job
                return
            else:
                self._end_job(job)

    def _next_job(self):
        """The next job of the operation, None if nothing is left to do."""
        word = self._operation[0]
        if word == "open":
            return Opening()
        if word == "commit":
            if self._ledger.has_active() and self._ledger.marked[3] >= self._full:
                return sealing(self._ledger)
            return Appending(self._ledger, self._operation[1])
        if word == "read":
            return Reading(self._ledger, self._operation[1], self._operation[2])
        if word == "seal":
            return sealing(self._ledger)
        if word == "drop":
            return dropping(self._ledger, self._operation[1])
        return merging(self._ledger, self._ratio)

    def _end_job(self, job):
        """Keep what a job has done; one with a result, or with none that failed, ends the operation."""
        self._job = None
        if job.outcome[0] == "done":
            self._ledger = job.ledger
        if job.outcome != _GOES_ON:
            self._end_operation(job.outcome)

    def _end_operation(self, outcome):
        if self._operation[0] == "open" and outcome[0] == "done":
            self._is_open = True
        self._operation = None
        self._outcome = outcome
