"""Packing the members of several segments into one file (point 814)."""

from bellows.log.records import read_member, write_frames, write_member

_MOST_BATCHES = 16
_MOST_FRAMES = 2048
_LEVEL = 9


def read_members(data):
    """The members of a file: the index of each of them, and its numbers and entries."""
    found = []
    at = 0
    while at < len(data):
        first_entry, first_batch, batches, entries, after = read_member(data, at)
        found.append((at, after - at, first_entry, first_batch, batches, entries))
        at = after
    return found


def merged_file(files, members):
    """The bytes of a merged file, and the places of its members; `members` has a list for each file."""
    data, places = _packed_file(members)
    if len(data) > sum([len(file) for file in files]):
        return _joined_files(files, members)
    return (data, places)


def _packed_file(members):
    data = []
    places = []
    for first_entry, first_batch, batches, entries in _packs(members):
        member = write_member(first_entry, first_batch, batches, entries, _LEVEL)
        places.append((len(data), len(member), first_entry, len(entries)))
        data += member
    return (data, places)


def _packs(members):
    """The tuples of the first entry, the first batch, the number of batches and the entries to write."""
    packs = []
    for part in members:
        for _, _, first_entry, first_batch, batches, entries in part:
            if packs != [] and _fit(packs[-1], batches, entries):
                entry, batch, many, before = packs.pop()
                packs.append((entry, batch, many + batches, before + entries))
            else:
                packs.append((first_entry, first_batch, batches, entries))
    return packs


def _fit(pack, batches, entries):
    """Whether a member may join those that were packed."""
    if pack[2] + batches > _MOST_BATCHES:
        return False
    return len(write_frames(pack[3])) + len(write_frames(entries)) <= _MOST_FRAMES


def _joined_files(files, members):
    data = []
    places = []
    for file, part in zip(files, members):
        for at, size, first_entry, _, _, entries in part:
            places.append((len(data) + at, size, first_entry, len(entries)))
        data += file
    return (data, places)
