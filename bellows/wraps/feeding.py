"""Reading texts that arrive in parts (points 610 to 612)."""

from bellows.errors import NotNow, Truncated
from bellows.inflate.flow import Flow
from bellows.wraps.items import GzipItems, ZlibItems


class ZlibReader:
    """Reads a zlib text that is fed in parts, and returns its data in any amounts."""

    def __init__(self, *, dictionary=None, limit=4096):
        self._items = ZlibItems(copied(dictionary), limit)
        self._flow = Flow(self._items)

    def feed(self, part, room=None):
        """Append a part to the input, and return the bytes that are due, at most `room` ones."""
        self._flow.extend(part)
        return self._flow.give(room)

    def given(self):
        """The number of bytes returned."""
        return self._flow.given()

    def owed(self):
        """The number of bytes that were produced and not returned yet."""
        return self._flow.owed()

    def ended(self):
        """Whether the text has ended and nothing is owed."""
        return self._items.has_ended() and self.owed() == 0

    def waits(self):
        """Whether nothing can happen until more is fed."""
        return self._flow.waits()

    def close(self):
        """Raise the error that is due if no more input comes."""
        self._flow.check_unit()
        if not self._items.has_ended():
            raise Truncated(8 * self._flow.arrived().size())

    def copy(self):
        """An independent reader in the same state."""
        twin = ZlibReader()
        twin._items = self._items.twin()
        twin._flow = self._flow.twin_for(twin._items)
        return twin

    def rest(self):
        """The input behind the text; an empty list before its end."""
        if not self._items.has_ended():
            return []
        return self._flow.arrived().bytes_from(self._items.end())

    def set_dictionary(self, dictionary):
        """Give the dictionary that the text has asked for."""
        if not self._items.needs_dictionary(self._flow.arrived()):
            raise NotNow(0)
        self._items.use_dictionary(copied(dictionary), self._flow.arrived())

    def head(self):
        """The window, the level and the Adler-32 of the dictionary, None before they were read."""
        return self._items.head(self._flow.arrived())


class GzipReader:
    """Reads a gzip text that is fed in parts, and returns the data of its members in any amounts."""

    def __init__(self, *, limit=4096):
        self._items = GzipItems(limit)
        self._flow = Flow(self._items)

    def feed(self, part, room=None):
        """Append a part to the input, and return the bytes that are due, at most `room` ones."""
        self._flow.extend(part)
        return self._flow.give(room)

    def given(self):
        """The number of bytes returned."""
        return self._flow.given()

    def owed(self):
        """The number of bytes that were produced and not returned yet."""
        return self._flow.owed()

    def ended(self):
        """Whether the input ends behind a member, and nothing is owed."""
        return self._items.is_between(self._flow.arrived()) and self.owed() == 0

    def waits(self):
        """Whether nothing can happen until more is fed."""
        return self._flow.waits()

    def close(self):
        """Raise the error that is due if no more input comes."""
        self._flow.check_unit()
        if not self._items.is_between(self._flow.arrived()):
            raise Truncated(8 * self._flow.arrived().size())

    def copy(self):
        """An independent reader in the same state."""
        twin = GzipReader()
        twin._items = self._items.twin()
        twin._flow = self._flow.twin_for(twin._items)
        return twin

    def members(self):
        """For each header that was read: the header, its position, and what all before it produced."""
        return self._items.members()


def copied(dictionary):
    """A list of its own for a dictionary that may be absent."""
    if dictionary is None:
        return None
    return list(dictionary)
