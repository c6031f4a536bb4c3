"""Points 803 and 818: what a log promises over crashes at any moment."""

import gzip
import unittest
import zlib

from bellows.log.disk import Disk, drive
from bellows.log.mark import read_state
from bellows.log.records import write_frames, write_member
from bellows.log.store import Log
from checks import Case, numbers, some_bytes

CHANGING = ("write", "cut", "remove", "sync", "sync_names")


class Story:
    """What must be in a log: all entries that were acknowledged, and which of them were dropped."""

    def __init__(self):
        self.entries = []
        self.first = 0
        # The batches and the least first entries that an interrupted operation may have led to.
        self.batch = None
        self.dropped = None

    def twin(self):
        other = Story()
        other.entries = list(self.entries)
        other.first = self.first
        return other

    def begin(self, operation, log):
        self.batch = operation[1] if operation[0] == "commit" else None
        self.dropped = None
        if operation[0] == "drop":
            borders = [one[1] + one[2] for one in log.segments() if one[1] + one[2] <= operation[1]]
            self.dropped = max(borders, default=None)

    def end(self, result):
        """Take over what an operation has done that was not interrupted."""
        if result[0] == "done":
            self.entries += self.batch or []
            self.first = self.dropped if self.dropped is not None else self.first
        self.batch = self.dropped = None


class CrashCase(Case):
    def check_log(self, log, disk, story):
        """Check an open log and its disk; takes over what an interrupted operation may have done."""
        first, following = log.entry_range()
        if following > len(story.entries):
            self.assertIsNotNone(story.batch)
            story.entries = story.entries + story.batch
        self.assertEqual(following, len(story.entries))
        self.assertIn(first, (story.first, story.dropped))
        story.first = first
        story.batch = story.dropped = None
        self.assertEqual(drive(log, ("read", first, following), disk), ("done", story.entries[first:]))
        self.check_files(log, disk, story.entries[first:])

    def check_files(self, log, disk, entries):
        """Every file except `mark` is a gzip file, and the frames are those of all entries."""
        data = {name: list(gzip.decompress(bytes(content))) for name, content in disk.files() if name != "mark"}
        identifiers = [one[0] for one in log.segments()] + ([log.active()[0]] if log.active() else [])
        frames = [byte for one in identifiers for byte in data["log-%08d" % one]]
        self.assertEqual(frames, write_frames(entries))

    def reopen(self, disk, story, options):
        """Open a log on a disk that has crashed, and once more, and check it."""
        log = Log(**options)
        self.assertEqual(drive(log, ("open",), disk)[0], "done")
        again = Log(**options)
        again.begin(("open",))
        while again.request() is not None:
            self.assertNotIn(again.request()[0], CHANGING)
            again.answer(disk.perform(again.request()))
        self.assertEqual(again.result(), ("done", log.entry_range()))
        self.check_log(log, disk, story)
        return log

    def crash_and_check(self, source, disk, story, options):
        """Crash the disk in some ways, each time also while the log is opened."""
        for choices in self.ways(source):
            crashed = disk.crash(choices)
            self.reopen(crashed.crash([]), story_of(story), options)
            log = Log(**options)
            log.begin(("open",))
            while log.request() is not None:
                if log.request()[0] in CHANGING:
                    again = crashed.crash(source.choice(self.ways(source)))
                    self.reopen(again, story_of(story), options)
                log.answer(crashed.perform(log.request()))
            self.reopen(crashed.crash(source.choice(self.ways(source))), story_of(story), options)

    def ways(self, source):
        """Nothing, everything, and something of what is pending took effect."""
        everything = [10 ** 9] * 300
        some = [source.randrange(1000) for _ in range(60)]
        names_only = [source.randrange(1000)] + [0] * 3
        last = [source.randrange(6)] + [source.choice([0, 1, 1, 2, 3]) for _ in range(60)]
        return [[], everything, some, names_only, last]

    def run_watched(self, source, log, operation, disk, story, options):
        """Carry out an operation, with a crash before each of its requests and behind the last one."""
        story.begin(operation, log)
        log.begin(operation)
        while log.request() is not None:
            self.crash_and_check(source, disk, story, options)
            log.answer(disk.perform(log.request()))
        if log.result()[0] == "done":
            story.end(log.result())
        else:
            self.assertEqual(log.result(), ("failed", "NoRoom", 0))
            story.end(log.result())
        self.crash_and_check(source, disk, story, options)
        self.check_log(log, disk, story)


def story_of(story):
    """A story of its own, with what an interrupted operation may have done."""
    twin = story.twin()
    twin.batch, twin.dropped = story.batch, story.dropped
    return twin


def some_operation(source, log):
    word = source.choice(["commit"] * 6 + ["seal", "seal", "tidy", "drop"])
    if word == "commit":
        return (word, [some_bytes(source, source.choice([0, 1, 2, 70]), 3) for _ in range(source.choice([1, 1, 2]))])
    if word == "drop":
        return (word, source.randint(*log.entry_range()))
    return (word,)


class EveryRequestTest(CrashCase):
    """A crash before each request of each operation, and of each opening."""

    def test_a_sequence_of_all_operations(self):
        source = numbers(818)
        options = {"full": 100, "ratio": 2}
        disk, story = Disk(), Story()
        log = self.reopen(disk, story, options)
        for operation in [("commit", [[1], []]), ("commit", [[2] * 40]), ("commit", [[3]]), ("seal",), ("tidy",),
                          ("commit", [[4]]), ("drop", 1), ("drop", 3), ("commit", [[5], [6]]), ("seal",), ("drop", 9),
                          ("commit", [[7]])]:
            self.run_watched(source, log, operation, disk, story, options)
        self.assertEqual(log.entry_range()[1], 8)

    def test_sequences_with_failed_writes(self):
        source = numbers(8181)
        for _ in range(4):
            options = {"full": source.choice([1, 100]), "ratio": 2}
            disk, story = Disk(), Story()
            log = self.reopen(disk, story, options)
            for _ in range(8):
                disk.set_room(source.choice([None, None, source.randrange(200)]))
                self.run_watched(source, log, some_operation(source, log), disk, story, options)


class AnySequenceTest(CrashCase):
    def test_operations_failed_writes_and_crashes(self):
        source = numbers(8182)
        for _ in range(60):
            options = {"full": source.choice([1, 60, 200]), "ratio": source.choice([2, 3])}
            disk, story = Disk(), Story()
            log = self.reopen(disk, story, options)
            for _ in range(25):
                disk.set_room(source.choice([None, None, None, source.randrange(300)]))
                operation = some_operation(source, log)
                story.begin(operation, log)
                log.begin(operation)
                left = source.choice([99, 99, source.randrange(12)])
                while log.request() is not None and left:
                    log.answer(disk.perform(log.request()))
                    left -= 1
                if log.request() is None:
                    story.end(log.result())
                    self.check_log(log, disk, story)
                else:
                    disk, log = self.crashed(source, disk, story, options)

    def crashed(self, source, disk, story, options):
        """Behind a crash, and perhaps more of them while the log is opened."""
        disk = disk.crash(source.choice(self.ways(source)))
        while source.random() < 0.3:
            log = Log(**options)
            log.begin(("open",))
            for _ in range(source.randrange(8)):
                if log.request() is not None:
                    log.answer(disk.perform(log.request()))
            disk = disk.crash(source.choice(self.ways(source)))
        return disk, self.reopen(disk, story, options)


class ForgedTest(CrashCase):
    """Nothing depends on checksums: a damaged member may look right."""

    def test_a_lost_tail_with_a_right_checksum(self):
        # The second batch holds a whole member of the log, with the numbers that come next, at every
        # place of a sector: what a crash leaves of it must not be taken for a member.
        source = numbers(8183)
        options = {"full": 4096, "ratio": 2}
        for offset in range(0, 60, 7):
            disk, story = Disk(), Story()
            log = self.reopen(disk, story, options)
            forged = write_member(1, 1, 1, [[9]], 0)
            for operation in [("commit", [[1] * offset]), ("commit", [forged, forged[20:] + forged])]:
                self.run_watched(source, log, operation, disk, story, options)

    def test_a_member_that_is_there_but_was_never_committed(self):
        # A whole member with a right checksum behind the size of the state is cut off.
        disk, story = Disk(), Story()
        options = {}
        log = self.reopen(disk, story, options)
        story.begin(("commit", [[1]]), log)
        story.end(drive(log, ("commit", [[1]]), disk))
        size = log.active()[1]
        disk.perform(("write", "log-00000001", size, write_member(1, 1, 1, [[2]], 6)))
        log = self.reopen(disk, story, options)
        self.assertEqual(log.entry_range(), (0, 1))
        self.assertEqual(dict(disk.files())["log-00000001"], write_member(0, 0, 1, [[1]], 6))

    def test_an_older_member_that_stays_in_a_sector(self):
        # A failed commit leaves its bytes for a crash; another batch of the same size comes in its place.
        source = numbers(8184)
        options = {}
        for room in (10, 50, 63, 64, 65, 100, 130):
            disk, story = Disk(), Story()
            log = self.reopen(disk, story, options)
            self.run_watched(source, log, ("commit", [[1]]), disk, story, options)
            for entry in ([7] * 30, [8] * 30):
                disk.set_room(room if entry[0] == 7 else None)
                self.run_watched(source, log, ("commit", [entry]), disk, story, options)

    def test_entries_with_equal_checksums(self):
        # Two batches whose members have the same size and whose data has the same CRC-32.
        first = [10, 20, 30, 40, 50, 60]
        change = self.kernel()
        second = [one ^ other for one, other in zip(first, change)]
        self.assertEqual(zlib.crc32(bytes(first)), zlib.crc32(bytes(second)))
        source = numbers(8185)
        options = {}
        disk, story = Disk(), Story()
        log = self.reopen(disk, story, options)
        for entry, room in [(first, 70), (second, None), (first, 30), (second, None), (first, None)]:
            disk.set_room(room)
            self.run_watched(source, log, ("commit", [entry]), disk, story, options)

    def kernel(self):
        """A change of six bytes that leaves every CRC-32 as it is."""
        # The polynomial itself, with the bits in the order in which they are summed.
        number = (0xEDB88320 << 1 | 1) << 3
        return list(number.to_bytes(6, "little"))


class NumbersTest(CrashCase):
    def test_no_number_is_used_twice(self):
        # Behind a crash that took a batch away, its numbers are free again; behind an acknowledged one not.
        source = numbers(8186)
        for _ in range(20):
            options = {"full": 80}
            disk, story = Disk(), Story()
            log = self.reopen(disk, story, options)
            for k in range(6):
                story.begin(("commit", [[k]]), log)
                result = drive(log, ("commit", [[k]]), disk)
                self.assertEqual(result, ("done", len(story.entries)))
                story.end(result)
                if source.random() < 0.5:
                    disk = disk.crash(source.choice(self.ways(source)))
                    log = self.reopen(disk, story, options)
            state = read_state(dict(disk.files())["mark"])
            self.assertEqual(state[6:8], (6, 6))
            taken = [one[0] for one in log.segments()] + [state[1], state[2]]
            self.assertTrue(all(one < state[8] for one in taken))


if __name__ == "__main__":
    unittest.main()
