"""Jobs, of which the operations of a log consist (points 802 and 811)."""


class Job:
    """Asks for one thing after the other, up to its outcome.

    The outcome is ("done", result) or ("failed", error word, place), and None before. The ledger is
    the one that holds behind the job.
    """

    def __init__(self, ledger):
        self.ledger = ledger
        self.outcome = None
        self._queue = []

    def request(self):
        """The request that is due, None if the job has ended."""
        if self._queue == []:
            return None
        request = self._queue[0]
        if request[0] == "write":
            return request[:3] + (list(request[3]),)
        return request

    def take_answer(self, value):
        """Take the answer to the request that is due."""
        request = self._queue[0]
        self._queue = self._queue[1:]
        self.use(request, value)

    def use(self, request, value):
        """Go on with an answer: ask for more, or end, if nothing is due any more."""

    def ask(self, requests):
        """Have more requests, behind those that are there."""
        self._queue = self._queue + requests

    def ask_instead(self, requests):
        """Have other requests instead of those that are there."""
        self._queue = requests

    def is_idle(self):
        """Whether nothing is due, although the job has not ended."""
        return self._queue == [] and self.outcome is None

    def succeed(self, result):
        """End with a result."""
        self.outcome = ("done", result)

    def fail(self, word, place):
        """End without doing anything more."""
        self._queue = []
        self.outcome = ("failed", word, place)
