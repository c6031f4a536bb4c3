"""How bytes flow from parts that arrive to what is returned (points 452 and 453)."""

from bellows.errors import BellowsError, Truncated
from bellows.inflate.arriving import ArrivingBits


class Flow:
    """Executes units of the parts that are fed, and gives out the bytes that these produce.

    The units come from an object with the methods `read_unit(bits)` and `execute(unit, bits)` of a
    `Decoder`: the first one returns None if there is no next unit, and otherwise changes nothing.
    """

    def __init__(self, units):
        self._units = units
        self._bits = ArrivingBits([])
        self._owed = []
        self._given = 0

    def arrived(self):
        """The bits of the input so far."""
        return self._bits

    def given(self):
        """The number of bytes returned."""
        return self._given

    def owed(self):
        """The number of bytes that were produced and not returned yet."""
        return len(self._owed)

    def extend(self, part):
        """Append a part to the input."""
        self._bits.extend(part)

    def give(self, room):
        """The bytes that are due, at most `room` ones; raises the error that is due if there are none."""
        self._run(room)
        if self._owed == [] and room == 0:
            self.check_unit()
        count = len(self._owed) if room is None else room
        part = self._owed[:count]
        self._owed = self._owed[count:]
        self._given += len(part)
        return part

    def check_unit(self):
        """Raise the error of the next unit if it is invalid."""
        try:
            self._units.read_unit(self._bits)
        except Truncated:
            return

    def is_incomplete(self):
        """Whether there is a next unit of which bits are missing."""
        try:
            self._units.read_unit(self._bits)
        except Truncated:
            return True
        except BellowsError:
            return False
        return False

    def waits(self):
        """Whether nothing is owed, and the next unit is incomplete."""
        return self._owed == [] and self.is_incomplete()

    def begin_at(self, index, given):
        """Count as fed so many bytes that are never looked at, and as returned so many others."""
        self._bits.extend([0] * index)
        self._given = given

    def twin_for(self, units):
        """An independent flow in the same state, with other units."""
        other = Flow(units)
        other._bits = self._bits.twin()
        other._owed = list(self._owed)
        other._given = self._given
        return other

    def _run(self, room):
        """Execute units until enough bytes are owed, or the next unit is not complete."""
        while room is None or len(self._owed) < room:
            try:
                unit = self._units.read_unit(self._bits)
            except Truncated:
                return
            except BellowsError:
                if self._owed != []:
                    return
                raise
            if unit is None:
                return
            self._owed += self._units.execute(unit, self._bits)
