"""Points 802 to 804, and bellows/log/disk.py."""

import itertools
import unittest

from bellows.log.disk import Disk, drive
from checks import Case, numbers, some_bytes


class PlainDisk:
    """A disk that keeps copies of everything at each moment (points 803 and 804)."""

    def __init__(self, files=()):
        self.count = 0
        self.names = {}
        # For each file, by a number of its own: all bytes that it had since its last sync.
        self.history = {}
        for name, data in files:
            self.names[name] = self.new_file(data)
        self.permanent = dict(self.names)
        self.pending = []
        self.room = None

    def new_file(self, data):
        self.count += 1
        self.history[self.count] = [list(data)]
        return self.count

    def data(self, name):
        return self.history[self.names[name]][-1]

    def perform(self, request):
        word, *rest = request
        if word == "names":
            return sorted(self.names)
        if word == "size":
            return len(self.data(rest[0]))
        if word == "read":
            return self.data(rest[0])[rest[1]:rest[1] + rest[2]]
        if word == "write":
            return self.write(*rest)
        if word == "cut":
            self.history[self.names[rest[0]]].append(self.data(rest[0])[:rest[1]])
        elif word == "remove":
            self.pending.append((rest[0], None))
            del self.names[rest[0]]
        elif word == "sync":
            self.history[self.names[rest[0]]] = [self.data(rest[0])]
        else:
            self.permanent = dict(self.names)
            self.pending = []
        return True

    def write(self, name, start, data):
        old = self.data(name) if name in self.names else []
        new = old[:start] + data + old[start + len(data):]
        fits = True
        while self.room is not None and len(new) > len(old) + self.room:
            fits = False
            data = data[:-1]
            new = old[:start] + data + old[start + len(data):]
        if self.room is not None:
            self.room -= len(new) - len(old)
        if name not in self.names:
            if not data:
                return fits
            self.names[name] = self.new_file([])
            self.pending.append((name, self.names[name]))
        self.history[self.names[name]].append(new)
        return fits

    def left(self, choices):
        """The files behind a crash."""
        choices = list(choices)

        def choose(outcomes):
            return outcomes[(choices.pop(0) if choices else 0) % len(outcomes)]

        names = dict(self.permanent)
        for name, number in self.pending[:choose(range(len(self.pending) + 1))]:
            names.pop(name, None)
            if number is not None:
                names[name] = number
        found = []
        for name in sorted(names):
            history = self.history[names[name]]
            size = choose([size for size, _ in itertools.groupby(map(len, history))])
            data = []
            for start in range(0, size, 64):
                contents = [(old[start:start + 64] + [0] * 64)[:64] for old in history]
                data += choose([content for content, _ in itertools.groupby(contents)])
            found.append((name, data[:size]))
        return found

    def files(self):
        return [(name, self.data(name)) for name in sorted(self.names)]


def some_request(source, names, sizes):
    """A request that keeps the rules of point 802."""
    word = source.choice(["write", "write", "write", "cut", "remove", "sync", "sync_names", "names", "size", "read"])
    if word in ("names", "sync_names"):
        return (word,)
    if word == "write":
        name = source.choice(["a", "b", "c"])
        size = sizes.get(name, 0)
        start = source.choice([0, size, size, source.randint(0, size)])
        return (word, name, start, some_bytes(source, source.choice([1, 3, 64, 65, 130]), 2))
    if not names:
        return ("names",)
    name = source.choice(names)
    if word == "cut":
        return (word, name, source.randint(0, sizes[name]))
    if word == "read":
        return (word, name, source.randint(0, sizes[name] + 2), source.randint(0, sizes[name] + 2))
    return (word, name)


class WalkTest(Case):
    def test_any_requests_and_crashes(self):
        source = numbers(803)
        for _ in range(60):
            disk, plain = Disk(), PlainDisk()
            for _ in range(40):
                sizes = {name: len(data) for name, data in plain.files()}
                request = some_request(source, sorted(sizes), sizes)
                self.assertEqual(disk.perform(request), plain.perform(request))
                self.assertEqual(disk.files(), plain.files())
                if source.random() < 0.2:
                    room = source.choice([None, 0, 1, 5, 100])
                    disk.set_room(room)
                    plain.room = room
                choices = [source.choice([0, 1, 2, source.randrange(100)]) for _ in range(source.randrange(25))]
                before = list(choices)
                crashed = disk.crash(choices)
                self.assertEqual(choices, before)
                self.assertEqual(crashed.files(), plain.left(choices))
                self.assertEqual(disk.files(), plain.files())
                if source.random() < 0.05:
                    disk, plain = crashed, PlainDisk(plain.left(choices))

    def test_a_crash_of_a_disk_that_has_just_crashed(self):
        source = numbers(8031)
        for _ in range(30):
            disk = Disk()
            for _ in range(15):
                sizes = {name: len(data) for name, data in disk.files()}
                disk.perform(some_request(source, sorted(sizes), sizes))
            crashed = disk.crash(some_bytes(source, 20))
            for _ in range(5):
                self.assertEqual(crashed.crash(some_bytes(source, 20)).files(), crashed.files())


class RequestTest(Case):
    def test_each_request(self):
        disk = Disk()
        self.assertEqual(disk.perform(("names",)), [])
        self.assertIs(disk.perform(("write", "b", 0, [1, 2, 3])), True)
        self.assertIs(disk.perform(("write", "a", 0, [7])), True)
        self.assertEqual(disk.perform(("names",)), ["a", "b"])
        self.assertEqual(disk.perform(("size", "b")), 3)
        self.assertEqual(disk.perform(("read", "b", 1, 1)), [2])
        self.assertEqual(disk.perform(("read", "b", 1, 9)), [2, 3])
        self.assertEqual(disk.perform(("read", "b", 3, 9)), [])
        self.assertEqual(disk.perform(("read", "b", 1, 0)), [])
        self.assertIs(disk.perform(("write", "b", 2, [9, 8])), True)
        self.assertEqual(disk.perform(("read", "b", 0, 9)), [1, 2, 9, 8])
        self.assertIs(disk.perform(("write", "b", 1, [5])), True)
        self.assertIs(disk.perform(("cut", "b", 3)), True)
        self.assertEqual(disk.files(), [("a", [7]), ("b", [1, 5, 9])])
        self.assertIs(disk.perform(("sync", "b")), True)
        self.assertIs(disk.perform(("remove", "b")), True)
        self.assertIs(disk.perform(("sync_names",)), True)
        self.assertEqual(disk.files(), [("a", [7])])

    def test_lists_are_new(self):
        disk = Disk()
        data = [1, 2]
        disk.perform(("write", "a", 0, data))
        data.append(3)
        for call in (lambda: disk.perform(("names",)), lambda: disk.perform(("read", "a", 0, 9)), disk.files):
            self.assert_new_list(call)
        disk.files()[0][1].append(4)
        crashed = disk.crash([1, 1, 1])
        crashed.files()[0][1].append(5)
        crashed.perform(("write", "a", 2, [6]))
        self.assertEqual(disk.files(), [("a", [1, 2])])
        self.assertEqual(crashed.files(), [("a", [1, 2, 6])])


class RoomTest(Case):
    def test_the_limit(self):
        disk = Disk()
        disk.set_room(5)
        self.assertIs(disk.perform(("write", "a", 0, [1, 2, 3])), True)
        self.assertIs(disk.perform(("write", "b", 0, [4, 5])), True)
        # What is there may be written again; nothing may become longer.
        self.assertIs(disk.perform(("write", "a", 0, [9, 8, 7])), True)
        self.assertIs(disk.perform(("write", "a", 2, [1, 1])), False)
        self.assertEqual(disk.files(), [("a", [9, 8, 1]), ("b", [4, 5])])
        disk.set_room(None)
        self.assertIs(disk.perform(("write", "a", 3, [1] * 5000)), True)

    def test_as_many_bytes_as_fit(self):
        for room in range(8):
            disk = Disk()
            disk.perform(("write", "a", 0, [1, 2, 3]))
            disk.set_room(room)
            self.assertIs(disk.perform(("write", "a", 2, [7] * 6)), room >= 5)
            self.assertEqual(disk.files()[0][1], [1, 2] + [7] * min(6, 1 + room))
            self.assertIs(disk.perform(("write", "c", 0, [1] * 3)), room >= 8)

    def test_a_new_file_needs_one_byte(self):
        for room, files in [(0, []), (1, [("a", [1])]), (2, [("a", [1, 2])]), (3, [("a", [1, 2, 3])])]:
            disk = Disk()
            disk.set_room(room)
            self.assertIs(disk.perform(("write", "a", 0, [1, 2, 3])), room == 3)
            self.assertEqual(disk.files(), files)
            self.assertEqual(disk.perform(("names",)), [name for name, _ in files])

    def test_what_is_cut_or_removed_gives_no_room(self):
        disk = Disk()
        disk.perform(("write", "a", 0, [1, 2, 3]))
        disk.set_room(1)
        disk.perform(("cut", "a", 1))
        self.assertIs(disk.perform(("write", "a", 1, [1, 1])), False)
        disk.perform(("remove", "a"))
        self.assertIs(disk.perform(("write", "b", 0, [1])), False)
        self.assertEqual(disk.files(), [])

    def test_a_crash_has_no_limit(self):
        disk = Disk()
        disk.set_room(0)
        self.assertIs(disk.crash([]).perform(("write", "a", 0, [1])), True)
        self.assertIs(disk.perform(("write", "a", 0, [1])), False)


class CrashTest(Case):
    def test_names_in_their_order(self):
        disk = Disk()
        for name in "ab":
            disk.perform(("write", name, 0, [1]))
            disk.perform(("sync", name))
        disk.perform(("remove", "a"))
        disk.perform(("write", "a", 0, [2]))
        disk.perform(("sync", "a"))
        left = [[name + str(data[0]) for name, data in disk.crash([count, 0, 0, 0, 0]).files()]
                for count in range(6)]
        self.assertEqual(left, [[], ["a1"], ["a1", "b1"], ["b1"], ["a2", "b1"], []])
        disk.perform(("sync_names",))
        self.assertEqual(disk.crash([3]).files(), [("a", [2]), ("b", [1])])

    def test_a_removal_that_did_not_take_effect(self):
        disk = Disk()
        disk.perform(("write", "a", 0, [1, 2]))
        disk.perform(("sync", "a"))
        disk.perform(("sync_names",))
        disk.perform(("write", "a", 2, [3]))
        disk.perform(("remove", "a"))
        self.assertEqual(disk.crash([]).files(), [("a", [1, 2])])
        self.assertEqual(disk.crash([0, 1, 1]).files(), [("a", [1, 2, 3])])
        self.assertEqual(disk.crash([1, 1, 1]).files(), [])

    def test_sizes_and_sectors(self):
        disk = Disk()
        disk.perform(("write", "a", 0, [1] * 64 + [2] * 6))
        disk.perform(("sync_names",))
        # The sizes are 0 and 70; a sector has been zeros, and then this.
        for choices, data in [([], []), ([0, 1], [0] * 70), ([0, 1, 1], [1] * 64 + [0] * 6),
                              ([0, 1, 0, 1], [0] * 64 + [2] * 6), ([5, 3, 5, 7], [1] * 64 + [2] * 6)]:
            self.assertEqual(disk.crash(choices).files(), [("a", data)])
        disk.perform(("sync", "a"))
        self.assertEqual(disk.crash([]).files(), [("a", [1] * 64 + [2] * 6)])
        disk.perform(("cut", "a", 66))
        disk.perform(("write", "a", 66, [3]))
        # The sizes are 70, 66, 67; the second sector has been [2] * 6, [2] * 2, [2, 2, 3].
        for choices, data in [([], [2] * 6), ([0, 1], [2] * 2), ([0, 2], [2] * 3), ([0, 0, 0, 1], [2, 2, 0, 0, 0, 0]),
                              ([0, 0, 0, 2], [2, 2, 3, 0, 0, 0]), ([0, 2, 9, 2], [2, 2, 3])]:
            self.assertEqual(disk.crash(choices).files(), [("a", [1] * 64 + data)])

    def test_no_equal_neighbours(self):
        disk = Disk()
        disk.perform(("write", "a", 0, [1, 2]))
        disk.perform(("sync", "a"))
        disk.perform(("sync_names",))
        for data in ([1, 2], [3, 2], [3, 2], [1, 2]):
            disk.perform(("write", "a", 0, data))
        # One size; the contents [1, 2], [3, 2], [1, 2].
        for choice in range(6):
            self.assertEqual(disk.crash([0, choice, choice]).files(), [("a", [[1, 2], [3, 2], [1, 2]][choice % 3])])
        # Each decision uses a choice, also if there is one outcome only.
        self.assertEqual(disk.crash([9, 8, 1]).files(), [("a", [3, 2])])
        # Zeros that are written where nothing was.
        disk = Disk()
        disk.perform(("write", "a", 0, [0, 0]))
        disk.perform(("write", "a", 2, [5]))
        self.assertEqual(disk.crash([1, 2, 1]).files(), [("a", [0, 0, 5])])
        self.assertEqual(disk.crash([1, 1, 2]).files(), [("a", [0, 0])])

    def test_files_in_the_order_of_their_names(self):
        disk = Disk()
        for name in "ba":
            disk.perform(("write", name, 0, [1]))
        self.assertEqual(disk.crash([2, 1, 1, 0]).files(), [("a", [1]), ("b", [])])
        self.assertEqual(disk.crash([2, 0, 1, 1]).files(), [("a", []), ("b", [1])])
        self.assertEqual(disk.crash([1, 1, 1]).files(), [("b", [1])])

    def test_a_sync_is_of_one_file(self):
        disk = Disk()
        for name in "ab":
            disk.perform(("write", name, 0, [1]))
        disk.perform(("sync", "b"))
        self.assertEqual(disk.crash([2]).files(), [("a", []), ("b", [1])])


class Asking:
    """Something with the methods of a log, which asks for what it is told to."""

    def __init__(self, requests):
        self.left = list(requests)
        self.begun = []
        self.answers = []

    def begin(self, operation):
        self.begun.append(operation)

    def request(self):
        return self.left[0] if self.left else None

    def answer(self, value):
        self.answers.append((self.left.pop(0), value))

    def result(self):
        return "the result"


class DriveTest(Case):
    def test_all_requests_are_performed(self):
        requests = [("names",), ("write", "a", 0, [1, 2]), ("size", "a"), ("read", "a", 0, 1), ("sync_names",)]
        log, disk = Asking(requests), Disk()
        self.assertEqual(drive(log, ("operation", 7), disk), "the result")
        self.assertEqual(log.begun, [("operation", 7)])
        self.assertEqual(log.answers, list(zip(requests, [[], True, 2, [1], True])))
        self.assertEqual(disk.files(), [("a", [1, 2])])
        self.assertEqual(drive(Asking([]), ("operation",), disk), "the result")


if __name__ == "__main__":
    unittest.main()
