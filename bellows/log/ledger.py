"""What a log knows of its files (points 807 to 810)."""

from bellows.log.mark import EMPTY_STATE, slot_start, write_slot

MARK = "mark"
NO_SEGMENT = (0, 0, 0, 0)


class Ledger:
    """The state of a log, its plan, and the members of its segments.

    `marked` is the state, a tuple of nine numbers; `sealed` the plan, a list of tuples of seven
    numbers; `contents` has a list for the identifier of each segment, with a tuple for each member:
    the index at which it starts, its size, its first entry and the number of its entries.
    """

    def __init__(self, marked, sealed, contents):
        self.marked = marked
        self.sealed = sealed
        self.contents = contents

    def has_active(self):
        """Whether there is an active segment."""
        return self.marked[2] != 0

    def first_entry(self):
        """The first entry of the log; the next one if there is none."""
        if self.sealed != []:
            return self.sealed[0][1]
        if self.has_active():
            return self.marked[4]
        return self.marked[6]

    def next_entry(self):
        """The number of the entry that is committed next."""
        return self.marked[6]

    def identifiers(self):
        """The identifiers of all segments, in the order of their entries."""
        found = [segment[0] for segment in self.sealed]
        if self.has_active():
            found.append(self.marked[2])
        return found

    def names(self):
        """The names of all files that belong to the state, in ascending order."""
        found = [segment_name(identifier) for identifier in self.identifiers()]
        if self.marked[1] != 0:
            found.append(plan_name(self.marked[1]))
        return sorted(found + [MARK])


def empty_ledger():
    """The ledger of a disk without files."""
    return Ledger(EMPTY_STATE, [], {})


def plan_name(identifier):
    """The name of the file of a plan."""
    return f"plan-{identifier:08d}"


def segment_name(identifier):
    """The name of the file of a segment."""
    return f"log-{identifier:08d}"


def requests_to_commit(state):
    """The requests that make a state the one of the disk."""
    turn = state[0]
    found = [("write", MARK, slot_start(turn), write_slot(state)), ("sync", MARK)]
    if turn == 1:
        # So far, the file may not survive a crash.
        found.append(("sync_names",))
    return found


def requests_to_remove(names):
    """The requests that delete files, and make this permanent."""
    if names == []:
        return []
    return [("remove", name) for name in sorted(names)] + [("sync_names",)]
