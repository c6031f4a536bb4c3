"""A disk in memory that may crash (points 802 to 804)."""

_SECTOR = 64


class Disk:
    """Files, and everything that a crash may leave of them."""

    def __init__(self):
        self._files = {}
        # The files whose names are permanent, and what was created and deleted since.
        self._permanent = {}
        self._pending = []
        self._room = None

    def perform(self, request):
        """Carry out a request, and return its answer."""
        word = request[0]
        if word == "names":
            return sorted(self._files)
        if word == "size":
            return self._files[request[1]].size()
        if word == "read":
            return self._files[request[1]].part(request[2], request[3])
        if word == "write":
            return self._write(request[1], request[2], request[3])
        if word == "cut":
            self._files[request[1]].cut(request[2])
        elif word == "remove":
            del self._files[request[1]]
            self._pending.append((request[1], None))
        elif word == "sync":
            self._files[request[1]].make_permanent()
        else:
            self._permanent = dict(self._files)
            self._pending = []
        return True

    def set_room(self, count):
        """Let write requests make files longer by at most so many bytes in all; None: no limit."""
        self._room = count

    def crash(self, choices):
        """A disk as a crash may leave it."""
        left = Choices(choices)
        names = dict(self._permanent)
        for name, file in self._pending[:left.take(len(self._pending) + 1)]:
            if file is None:
                del names[name]
            else:
                names[name] = file
        found = Disk()
        for name in sorted(names):
            found._files[name] = DiskFile(names[name].left_by_crash(left))
        found._permanent = dict(found._files)
        return found

    def files(self):
        """The pairs of the names and the bytes of all files."""
        return [(name, self._files[name].part(0, self._files[name].size())) for name in sorted(self._files)]

    def _write(self, name, start, data):
        size = self._files[name].size() if name in self._files else 0
        fitting = len(data)
        if self._room is not None:
            fitting = min(fitting, max(0, size - start) + self._room)
            self._room -= max(0, start + fitting - size)
        if name not in self._files and (fitting > 0 or data == []):
            self._files[name] = DiskFile([])
            self._pending.append((name, self._files[name]))
        if fitting > 0:
            self._files[name].write(start, data[:fitting])
        return fitting == len(data)


class DiskFile:
    """The bytes of a file, and the sizes and the contents of sectors that it had since its last sync."""

    def __init__(self, data):
        self._data = list(data)
        self._sizes = [len(data)]
        # For each sector that was written to since then: its contents, the oldest first.
        self._sectors = {}

    def size(self):
        """The number of bytes."""
        return len(self._data)

    def part(self, start, count):
        """The bytes from an index on, at most so many."""
        return self._data[start:start + count]

    def write(self, start, data):
        """Put bytes in the place of those from an index on, or behind the last one."""
        after = start + len(data)
        sectors = sectors_between(start, after)
        self._note(sectors)
        self._data[start:after] = data
        self._note_changes(sectors)

    def cut(self, count):
        """Keep the first bytes only."""
        sectors = sectors_between(count, len(self._data))
        self._note(sectors)
        del self._data[count:]
        self._note_changes(sectors)

    def make_permanent(self):
        """Forget what was before."""
        self._sizes = [len(self._data)]
        self._sectors = {}

    def left_by_crash(self, choices):
        """The bytes that a crash leaves."""
        size = self._sizes[choices.take(len(self._sizes))]
        data = []
        for sector in range(sectors_of(size)):
            contents = self._sectors.get(sector, [self._content(sector)])
            data += contents[choices.take(len(contents))]
        return data[:size]

    def _content(self, sector):
        """The bytes of a sector, where those that do not exist count as 0."""
        content = self._data[sector * _SECTOR:(sector + 1) * _SECTOR]
        return content + [0] * (_SECTOR - len(content))

    def _note(self, sectors):
        """Keep the contents of sectors before they change for the first time."""
        for sector in sectors:
            if sector not in self._sectors:
                self._sectors[sector] = [self._content(sector)]

    def _note_changes(self, sectors):
        """Keep the size and the contents behind a change."""
        if self._sizes[-1] != len(self._data):
            self._sizes.append(len(self._data))
        for sector in sectors:
            content = self._content(sector)
            if self._sectors[sector][-1] != content:
                self._sectors[sector].append(content)


class Choices:
    """Integers that are used one after the other; missing ones count as 0."""

    def __init__(self, numbers):
        self._numbers = list(numbers)
        self._used = 0

    def take(self, count):
        """The next one, modulo the number of outcomes."""
        number = 0
        if self._used < len(self._numbers):
            number = self._numbers[self._used]
        self._used += 1
        return number % count


def sectors_of(size):
    """The number of sectors of a file."""
    return (size + _SECTOR - 1) // _SECTOR


def sectors_between(start, stop):
    """The numbers of the sectors that contain the bytes from one index up to another one."""
    return list(range(start // _SECTOR, sectors_of(stop)))


def drive(log, operation, disk):
    """Carry out an operation of a log on a disk, and return its outcome."""
    log.begin(operation)
    request = log.request()
    while request is not None:
        log.answer(disk.perform(request))
        request = log.request()
    return log.result()
