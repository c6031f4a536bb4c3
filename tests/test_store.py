"""Points 801, 802, 807 and 809 to 817, and bellows/log/store.py."""

import gzip
import unittest

from bellows.deflate.least import deflate_least
from bellows.errors import Busy, NotOpen
from bellows.log.disk import Disk, drive
from bellows.log.mark import read_plan, read_state, write_plan, write_slot
from bellows.log.records import read_member, write_frames, write_member
from bellows.log.store import Log
from checks import Case, numbers, some_bytes
from plainlog import EMPTY, PlainLog, StrictDisk
from test_records import made_member, plain_extra, plain_stream

DONE = ("done", None)
NO_ROOM = ("failed", "NoRoom", 0)


def short(request):
    """A request with the number of its bytes instead of these."""
    return request[:3] + (len(request[3]),) if request[0] == "write" else request


def opened(disk=None, **options):
    """A log that was opened, and its disk."""
    disk = StrictDisk() if disk is None else disk
    log = Log(**options)
    assert drive(log, ("open",), disk)[0] == "done"
    disk.asked.clear()
    return log, disk


def with_batches(batches, **options):
    log, disk = opened(**options)
    for entries in batches:
        assert drive(log, ("commit", entries), disk)[0] == "done"
    disk.asked.clear()
    return log, disk


def state_of(disk):
    return read_state(dict(disk.disk.files()).get("mark", []))


def frames_on(disk, log):
    """The frames of the segments, one after the other, as a reader of gzip files gives them."""
    files = dict(disk.disk.files())
    identifiers = [segment[0] for segment in log.segments()] + ([log.active()[0]] if log.active() else [])
    return [byte for one in identifiers for byte in gzip.decompress(bytes(files["log-%08d" % one]))]


class RunTest(Case):
    """Checks an operation with all its requests."""

    def check(self, log, disk, operation, requests, result):
        disk.asked.clear()
        self.assertEqual(drive(log, operation, disk), result)
        self.assertEqual([short(request) for request in disk.asked], requests)


class BeginTest(Case):
    def test_only_open_before_the_log_is_open(self):
        log = Log()
        for operation in [("commit", [[1]]), ("read", 0, 0), ("seal",), ("tidy",), ("drop", 0)]:
            self.assert_error(NotOpen, 0, log.begin, operation)
        self.assertIsNone(log.request())
        self.assertIsNone(log.result())
        self.assertEqual((log.entry_range(), log.segments(), log.active()), ((0, 0), [], None))
        log.begin(("open",))
        self.assertEqual(log.request(), ("names",))
        for operation in [("open",), ("commit", [[1]]), ("seal",)]:
            # That one is running comes first.
            self.assert_error(Busy, 0, log.begin, operation)
        self.assertIsNone(log.result())
        log.answer([])
        self.assertEqual(log.result(), ("done", (0, 0)))
        self.assertIsNone(log.request())
        self.assert_error(NotOpen, 0, log.begin, ("open",))
        self.assertEqual(log.result(), ("done", (0, 0)))

    def test_busy_during_each_request(self):
        log, disk = with_batches([[[1]], [[2]]], full=1)
        for operation in [("commit", [[3]]), ("seal",), ("tidy",), ("read", 0, 3), ("drop", 3)]:
            log.begin(operation)
            while log.request() is not None:
                before = log.request()
                self.assert_error(Busy, 0, log.begin, ("seal",))
                self.assert_error(Busy, 0, log.begin, ("open",))
                self.assertEqual(log.request(), before)
                log.answer(disk.perform(before))
            self.assertEqual(log.result()[0], "done")

    def test_the_result_is_of_the_last_operation_that_ended(self):
        log, disk = with_batches([[[1]]])
        self.assertEqual(log.result(), ("done", 0))
        log.begin(("commit", [[2]]))
        self.assertEqual(log.result(), ("done", 0))
        self.assertEqual(log.entry_range(), (0, 1))
        while log.request() is not None:
            log.answer(disk.perform(log.request()))
        self.assertEqual(log.result(), ("done", 1))
        self.assertEqual(log.entry_range(), (0, 2))

    def test_an_open_that_failed_may_be_started_again(self):
        log, disk = with_batches([[[1]]])
        data = disk.perform(("read", "log-00000001", 0, 9999))
        disk.perform(("remove", "log-00000001"))
        log = Log()
        for _ in range(2):
            self.assertEqual(drive(log, ("open",), disk), ("failed", "WrongLog", 1))
            self.assert_error(NotOpen, 0, log.begin, ("seal",))
            self.assertEqual((log.entry_range(), log.segments(), log.active()), ((0, 0), [], None))
        disk.perform(("write", "log-00000001", 0, data))
        self.assertEqual(drive(log, ("open",), disk), ("done", (0, 1)))
        self.assert_error(NotOpen, 0, log.begin, ("open",))

    def test_lists_are_new_and_copied(self):
        log, disk = opened(full=1)
        entries = [[1], [2]]
        log.begin(("commit", entries))
        entries[0].append(9)
        entries.append([3])
        expected = write_member(0, 0, 1, [[1], [2]], 6)
        for _ in range(2):
            request = log.request()
            self.assertEqual(request, ("write", "log-00000001", 0, expected))
            request[3].append(7)
        while log.request() is not None:
            log.answer(disk.perform(log.request()))
        # A commit that must seal first has its entries still later.
        entries = [[4]]
        log.begin(("commit", entries))
        entries[0].append(5)
        while log.request() is not None:
            log.answer(disk.perform(log.request()))
        self.assertEqual(drive(log, ("read", 0, 3), disk), ("done", [[1], [2], [4]]))
        log.result()[1][0].append(8)
        log.result()[1].append(8)
        self.assertEqual(log.result(), ("done", [[1], [2], [4]]))
        self.assert_new_list(log.segments)

    def test_an_answer_is_copied(self):
        log, disk = with_batches([[[1]], [[2]]], full=1)
        drive(log, ("seal",), disk)
        log.begin(("tidy",))
        while log.request() is not None:
            answer = disk.perform(log.request())
            log.answer(answer)
            if isinstance(answer, list):
                answer.clear()
        self.assertEqual(drive(log, ("read", 0, 2), disk), ("done", [[1], [2]]))


class CommitTest(RunTest):
    def test_the_first_one(self):
        log, disk = opened()
        member = write_member(0, 0, 1, [[1], [], [2, 3]], 6)
        state = (1, 0, 1, len(member), 0, 0, 3, 1, 2)
        log.begin(("commit", [[1], [], [2, 3]]))
        for request, answer in [(("write", "log-00000001", 0, member), True), (("sync", "log-00000001"), True),
                                (("sync_names",), True), (("write", "mark", 0, write_slot(state)), True),
                                (("sync", "mark"), True), (("sync_names",), True)]:
            self.assertEqual(log.request(), request)
            self.assertEqual(log.entry_range(), (0, 0))
            log.answer(answer)
        self.assertIsNone(log.request())
        self.assertEqual(log.result(), ("done", 0))
        self.assertEqual(log.entry_range(), (0, 3))
        self.assertEqual(log.active(), (1, len(member)))
        self.assertEqual(log.segments(), [])

    def test_the_next_ones(self):
        log, disk = with_batches([[[1]]])
        sizes = [len(write_member(0, 0, 1, [[1]], 6))]
        at = sizes[0]
        for k in range(1, 6):
            size = len(write_member(k, k, 1, [[k]], 6))
            place = 64 if k % 2 else 0
            self.check(log, disk, ("commit", [[k]]), [
                ("write", "log-00000001", at, size), ("sync", "log-00000001"), ("write", "mark", place, 64),
                ("sync", "mark")], ("done", k))
            at += size
            self.assertEqual(state_of(disk), (k + 1, 0, 1, at, 0, 0, k + 1, k + 1, 2))
            self.assertEqual(log.active(), (1, at))

    def test_a_full_active_segment_is_sealed_first(self):
        one = len(write_member(0, 0, 1, [[1]], 6))
        for full, seals in [(1, True), (one - 1, True), (one, True), (one + 1, False), (4096, False)]:
            log, disk = with_batches([[[1]]], full=full)
            segment = (1, 0, 1, 0, 1, 0, one)
            if not seals:
                self.check(log, disk, ("commit", [[2]]), [
                    ("write", "log-00000001", one, one), ("sync", "log-00000001"), ("write", "mark", 64, 64),
                    ("sync", "mark")], ("done", 1))
                continue
            self.check(log, disk, ("commit", [[2]]), [
                ("write", "plan-00000002", 0, len(write_plan([segment]))), ("sync", "plan-00000002"),
                ("sync_names",), ("write", "mark", 64, 64), ("sync", "mark"),
                ("write", "log-00000003", 0, one), ("sync", "log-00000003"), ("sync_names",),
                ("write", "mark", 0, 64), ("sync", "mark")], ("done", 1))
            self.assertEqual(log.segments(), [segment])
            self.assertEqual(log.active(), (3, one))
            self.assertEqual(state_of(disk), (3, 2, 3, one, 1, 1, 2, 2, 4))

    def test_no_room_for_the_first_member_or_its_slot(self):
        size = len(write_member(0, 0, 1, [[1]], 6))
        head = [("write", "log-00000001", 0, size)]
        slot = [("sync", "log-00000001"), ("sync_names",), ("write", "mark", 0, 64)]
        undo = [("names",), ("remove", "log-00000001"), ("sync_names",)]
        for room in range(size + 64):
            log, disk = opened()
            disk.disk.set_room(room)
            requests = head + [("names",)] if room == 0 else head + undo if room < size else head + slot + undo
            self.check(log, disk, ("commit", [[1]]), requests, NO_ROOM)
            # The file `mark` is not repaired.
            files = [("mark", write_slot((1, 0, 1, size, 0, 0, 1, 1, 2))[:room - size])] if room > size else []
            self.assertEqual(disk.disk.files(), files)
            self.assertEqual((log.entry_range(), log.active()), ((0, 0), None))
            disk.disk.set_room(None)
            # The same turn and the same identifier again.
            self.check(log, disk, ("commit", [[1]]), head + slot + [("sync", "mark"), ("sync_names",)], ("done", 0))
            self.assertEqual(state_of(disk), (1, 0, 1, size, 0, 0, 1, 1, 2))

    def test_no_room_for_a_later_member_or_its_slot(self):
        first = len(write_member(0, 0, 1, [[1]], 6))
        size = len(write_member(1, 1, 1, [[2] * 9], 6))
        head = [("write", "log-00000001", first, size)]
        undo = [("cut", "log-00000001", first), ("sync", "log-00000001")]
        for room in range(size + 64):
            log, disk = with_batches([[[1]]])
            before = dict(disk.disk.files())["log-00000001"]
            disk.disk.set_room(room)
            requests = head + undo
            if room >= size:
                requests = head + [("sync", "log-00000001"), ("write", "mark", 64, 64)] + undo
            self.check(log, disk, ("commit", [[2] * 9]), requests, NO_ROOM)
            self.assertEqual(dict(disk.disk.files())["log-00000001"], before)
            self.assertEqual((log.entry_range(), log.active()), ((0, 1), (1, first)))
            self.assertEqual(drive(log, ("read", 0, 1), disk), ("done", [[1]]))
            disk.disk.set_room(None)
            self.check(log, disk, ("commit", [[2] * 9]), head + [
                ("sync", "log-00000001"), ("write", "mark", 64, 64), ("sync", "mark")], ("done", 1))
            self.assertEqual(state_of(disk)[0], 2)

    def test_once_it_is_sealed_it_stays_sealed(self):
        log, disk = with_batches([[[1]], [[2]]], full=90)
        size = log.active()[1]
        plan = len(write_plan([(1, 0, 2, 0, 2, 0, size)]))
        # No room for the plan: the commit fails like the seal.
        disk.disk.set_room(plan - 1)
        self.check(log, disk, ("commit", [[3]]), [
            ("write", "plan-00000002", 0, plan), ("names",), ("remove", "plan-00000002"), ("sync_names",)], NO_ROOM)
        self.assertEqual((log.segments(), log.active()), ([], (1, size)))
        # Room for the plan, and none for the member.
        disk.disk.set_room(plan)
        one = len(write_member(2, 2, 1, [[3]], 6))
        self.check(log, disk, ("commit", [[3]]), [
            ("write", "plan-00000002", 0, plan), ("sync", "plan-00000002"), ("sync_names",), ("write", "mark", 0, 64),
            ("sync", "mark"), ("write", "log-00000003", 0, one), ("names",)], NO_ROOM)
        self.assertEqual((log.segments(), log.active()), ([(1, 0, 2, 0, 2, 0, size)], None))
        self.assertEqual(state_of(disk), (3, 2, 0, 0, 0, 0, 2, 2, 3))
        disk.disk.set_room(None)
        self.check(log, disk, ("commit", [[3]]), [
            ("write", "log-00000003", 0, one), ("sync", "log-00000003"), ("sync_names",), ("write", "mark", 64, 64),
            ("sync", "mark")], ("done", 2))

    def test_large_batches(self):
        log, disk = opened()
        source = numbers(801)
        batches = [[some_bytes(source, 256) for _ in range(15)], [[]] * 15, [some_bytes(source, 256)]]
        for entries in batches:
            self.assertEqual(drive(log, ("commit", entries), disk)[0], "done")
        self.assertEqual(drive(log, ("read", 0, 31), disk), ("done", sum(batches, [])))
        self.assertEqual(frames_on(disk, log), write_frames(sum(batches, [])))

    def test_the_level(self):
        # Entries of which each level near 6 makes another stream.
        source = numbers(813)
        members = []
        while len(set(map(tuple, members))) < 3:
            entries = [some_bytes(source, 256, 2) for _ in range(15)]
            members = [write_member(0, 0, 1, entries, level) for level in (5, 6, 7)]
        log, disk = with_batches([entries])
        self.assertEqual(dict(disk.disk.files())["log-00000001"], members[1])


class SealTest(RunTest):
    def test_without_an_active_segment(self):
        log, disk = opened()
        self.check(log, disk, ("seal",), [], DONE)
        log, disk = with_batches([[[1]]])
        drive(log, ("seal",), disk)
        self.check(log, disk, ("seal",), [], DONE)

    def test_the_requests(self):
        log, disk = with_batches([[[1], [2]], [[3]]])
        first = (1, 0, 3, 0, 2, 0, log.active()[1])
        self.check(log, disk, ("seal",), [
            ("write", "plan-00000002", 0, len(write_plan([first]))), ("sync", "plan-00000002"), ("sync_names",),
            ("write", "mark", 0, 64), ("sync", "mark")], DONE)
        self.assertEqual((log.segments(), log.active(), log.entry_range()), ([first], None, (0, 3)))
        self.assertEqual(state_of(disk), (3, 2, 0, 0, 0, 0, 3, 2, 3))
        drive(log, ("commit", [[4]]), disk)
        second = (3, 3, 1, 2, 1, 0, log.active()[1])
        self.check(log, disk, ("seal",), [
            ("write", "plan-00000004", 0, len(write_plan([first, second]))), ("sync", "plan-00000004"),
            ("sync_names",), ("write", "mark", 0, 64), ("sync", "mark"), ("remove", "plan-00000002"),
            ("sync_names",)], DONE)
        self.assertEqual(log.segments(), [first, second])
        self.assertEqual(read_plan(dict(disk.disk.files())["plan-00000004"]), [first, second])

    def test_no_room_for_the_plan(self):
        log, disk = with_batches([[[1]]])
        plan = len(write_plan([(1, 0, 1, 0, 1, 0, log.active()[1])]))
        head = [("write", "plan-00000002", 0, plan)]
        undo = [("names",), ("remove", "plan-00000002"), ("sync_names",)]
        slot = [("sync", "plan-00000002"), ("sync_names",), ("write", "mark", 64, 64)]
        for room in range(plan + 64):
            log, disk = with_batches([[[1]]])
            before, active = dict(disk.disk.files())["log-00000001"], log.active()
            disk.disk.set_room(room)
            requests = head + [("names",)] if room == 0 else head + undo if room < plan else head + slot + undo
            self.check(log, disk, ("seal",), requests, NO_ROOM)
            self.assertEqual((log.segments(), log.active()), ([], active))
            self.assertEqual([name for name, _ in disk.disk.files()], ["log-00000001", "mark"])
            self.assertEqual(dict(disk.disk.files())["log-00000001"], before)
            disk.disk.set_room(None)
            self.check(log, disk, ("seal",), head + slot + [("sync", "mark")], DONE)
            self.assertEqual(state_of(disk), (2, 2, 0, 0, 0, 0, 1, 1, 3))


def three_segments():
    """Segments with the entries 0 and 1, 2, and 3 to 5, and the entry 6 in the active one."""
    log, disk = opened()
    for entries in ([[0], [1]], [[2]], [[3], [4], [5]]):
        drive(log, ("commit", entries), disk)
        drive(log, ("seal",), disk)
    drive(log, ("commit", [[6]]), disk)
    return log, disk


class DropTest(RunTest):
    def test_at_before_and_behind_a_border(self):
        for entry, kept, first in [(0, 3, 0), (1, 3, 0), (2, 2, 2), (3, 1, 3), (4, 1, 3), (5, 1, 3), (6, 0, 6),
                                   (7, 0, 6), (2 ** 32 - 1, 0, 6)]:
            log, disk = three_segments()
            plan = log.segments()
            old = [segment[0] for segment in plan]
            disk.asked.clear()
            self.assertEqual(drive(log, ("drop", entry), disk), DONE)
            self.assertEqual(log.segments(), plan[3 - kept:])
            self.assertEqual(log.entry_range(), (first, 7))
            self.assertEqual(bool(disk.asked), kept < 3)
            removed = [request[1] for request in disk.asked if request[0] == "remove"]
            if kept < 3:
                self.assertEqual(removed, ["log-%08d" % one for one in old[:3 - kept]] + ["plan-00000006"])
            self.assertEqual(drive(log, ("read", first, 7), disk), ("done", [[k] for k in range(first, 7)]))
            if first:
                self.assertEqual(drive(log, ("read", first - 1, 7), disk), ("failed", "Dropped", first))
            again, _ = opened(disk)
            self.assertEqual((again.entry_range(), again.segments()), (log.entry_range(), log.segments()))

    def test_the_requests(self):
        log, disk = three_segments()
        plan = log.segments()
        turn = state_of(disk)[0]
        place = 64 if turn % 2 else 0
        self.check(log, disk, ("drop", 2), [
            ("write", "plan-00000008", 0, len(write_plan(plan[1:]))), ("sync", "plan-00000008"), ("sync_names",),
            ("write", "mark", place, 64), ("sync", "mark"), ("remove", "log-00000001"), ("remove", "plan-00000006"),
            ("sync_names",)], DONE)
        # The plan becomes empty: no file is written for it, and no identifier is taken.
        self.check(log, disk, ("drop", 6), [
            ("write", "mark", 64 - place, 64), ("sync", "mark"), ("remove", "log-00000003"),
            ("remove", "log-00000005"), ("remove", "plan-00000008"), ("sync_names",)], DONE)
        self.assertEqual(state_of(disk)[1], 0)
        self.assertEqual(state_of(disk)[8], 9)
        self.check(log, disk, ("drop", 7), [], DONE)

    def test_an_empty_log_goes_on_with_its_numbers(self):
        log, disk = with_batches([[[1], [2]]])
        drive(log, ("seal",), disk)
        drive(log, ("drop", 2), disk)
        self.assertEqual((log.entry_range(), log.segments(), log.active()), ((2, 2), [], None))
        self.assertEqual([name for name, _ in disk.disk.files()], ["mark"])
        again, _ = opened(disk)
        self.assertEqual(again.entry_range(), (2, 2))
        self.assertEqual(drive(again, ("commit", [[3]]), disk), ("done", 2))
        self.assertEqual(drive(again, ("read", 2, 3), disk), ("done", [[3]]))
        self.assertEqual(drive(again, ("read", 1, 3), disk), ("failed", "Dropped", 2))
        self.assertEqual(state_of(disk)[6:], (3, 2, 4))

    def test_no_room_for_the_plan_or_the_slot(self):
        for entry, name in [(2, "plan-00000008"), (6, None)]:
            rooms = range(40) if name else [0]
            for room in rooms:
                log, disk = three_segments()
                before = log.segments(), log.entry_range()
                turn = state_of(disk)[0]
                size = len(write_plan(log.segments()[1:]))
                disk.disk.set_room(room)
                result = drive(log, ("drop", entry), disk)
                # The two slots are there, so that only a plan needs room.
                self.assertEqual(result, NO_ROOM if name and room < size else DONE)
                if result == NO_ROOM:
                    self.assertEqual((log.segments(), log.entry_range()), before)
                    self.assertEqual(state_of(disk)[0], turn)
                    self.assertNotIn(name, [one for one, _ in disk.disk.files()])
                    disk.disk.set_room(None)
                    self.assertEqual(drive(log, ("drop", entry), disk), DONE)
                self.assertEqual(log.segments(), before[0][1:] if name else [])
        # There is only one slot, and no room for the other one.
        log, disk = with_batches([[[1]]], full=1)
        plan = len(write_plan([(1, 0, 1, 0, 1, 0, log.active()[1])]))
        disk.disk.set_room(plan + 20)
        self.assertEqual(drive(log, ("seal",), disk), NO_ROOM)
        disk.disk.set_room(None)
        self.assertEqual(drive(log, ("seal",), disk), DONE)


class TidyTest(RunTest):
    def test_nothing_to_merge(self):
        log, disk = opened()
        self.check(log, disk, ("tidy",), [], DONE)
        log, disk = with_batches([[[1]]])
        self.check(log, disk, ("tidy",), [], DONE)
        drive(log, ("seal",), disk)
        self.check(log, disk, ("tidy",), [], DONE)

    def test_the_requests(self):
        log, disk = three_segments()
        plan = log.segments()
        one = write_member(0, 0, 2, [[0], [1], [2]], 9)
        merged = (8, 0, 3, 0, 2, 1, len(one))
        place = 64 if state_of(disk)[0] % 2 else 0
        self.check(log, disk, ("tidy",), [
            ("size", "log-00000001"), ("read", "log-00000001", 0, plan[0][6]),
            ("size", "log-00000003"), ("read", "log-00000003", 0, plan[1][6]),
            ("write", "log-00000008", 0, len(one)), ("sync", "log-00000008"),
            ("write", "plan-00000009", 0, len(write_plan([merged, plan[2]]))), ("sync", "plan-00000009"),
            ("sync_names",), ("write", "mark", place, 64), ("sync", "mark"),
            ("remove", "log-00000001"), ("remove", "log-00000003"), ("remove", "plan-00000006"), ("sync_names",),
        ], DONE)
        self.assertEqual(log.segments(), [merged, plan[2]])
        self.assertEqual(dict(disk.disk.files())["log-00000008"], one)
        self.assertEqual(state_of(disk)[1:3] + state_of(disk)[8:], (9, 7, 10))
        self.assertEqual(drive(log, ("read", 0, 7), disk), ("done", [[k] for k in range(7)]))

    def test_merges_lead_to_merges(self):
        for ratio in (2, 3, 8):
            log, disk = opened(ratio=ratio)
            entries = []
            for k in range(18):
                entries += [[k, k], []]
                drive(log, ("commit", entries[-2:]), disk)
                drive(log, ("seal",), disk)
                if k % 5 == 4:
                    drive(log, ("tidy",), disk)
                    self.check_plan(log, ratio)
            drive(log, ("tidy",), disk)
            self.check_plan(log, ratio)
            expected = {2: [4, 1], 3: [2, 2], 8: [1, 1, 0, 0]}
            self.assertEqual([segment[5] for segment in log.segments()], expected[ratio])
            self.assertEqual(drive(log, ("read", 0, 36), disk), ("done", entries))
            self.assertEqual(frames_on(disk, log), write_frames(entries))
            again, _ = opened(disk, ratio=ratio)
            self.assertEqual((again.segments(), again.entry_range()), (log.segments(), (0, 36)))

    def check_plan(self, log, ratio):
        """Point 816."""
        ranks = [segment[5] for segment in log.segments()]
        self.assertEqual(ranks, sorted(ranks, reverse=True))
        self.assertTrue(all(ranks.count(rank) < ratio for rank in ranks))

    def packed(self, sizes):
        """The numbers of batches of the members of two segments that were merged, for sizes of entries."""
        log, disk = opened(full=4096)
        entries = []
        source = numbers(814)
        for index, size in enumerate(sizes):
            entries.append([source.randint(0, 2)] * size)
            drive(log, ("commit", entries[-1:]), disk)
            if index in (0, len(sizes) - 1):
                drive(log, ("seal",), disk)
        self.assertEqual(drive(log, ("tidy",), disk), DONE)
        [segment] = log.segments()
        data = dict(disk.disk.files())["log-%08d" % segment[0]]
        self.assertEqual(len(data), segment[6])
        found = []
        at = 0
        while at < len(data):
            _, _, batches, _, at = read_member(data, at)
            found.append(batches)
        self.assertEqual(drive(log, ("read", 0, len(entries)), disk), ("done", entries))
        return found

    def test_packing_at_the_bounds(self):
        self.assertEqual(self.packed([1] * 15), [15])
        self.assertEqual(self.packed([1] * 16), [16])
        self.assertEqual(self.packed([1] * 17), [16, 1])
        self.assertEqual(self.packed([1] * 33), [16, 16, 1])
        # Frames of 258 bytes seven times, and one of 242 bytes: 2,048 bytes in all.
        self.assertEqual(self.packed([256] * 7 + [240]), [8])
        self.assertEqual(self.packed([256] * 7 + [241]), [7, 1])
        self.assertEqual(self.packed([256] * 8), [7, 1])
        self.assertEqual(self.packed([240] + [256] * 7 + [0]), [8, 1])

    def test_a_single_large_member_is_written_anew(self):
        log, disk = opened(full=4096)
        entries = [[7] * 256] * 15
        for batch in (entries, entries):
            drive(log, ("commit", batch), disk)
            drive(log, ("seal",), disk)
        self.assertEqual(drive(log, ("tidy",), disk), DONE)
        expected = write_member(0, 0, 1, entries, 9) + write_member(15, 1, 1, entries, 9)
        self.assertEqual(dict(disk.disk.files())["log-%08d" % log.segments()[0][0]], expected)

    def disk_with_two_segments(self, files, entries):
        """A disk with these files as sealed segments, which have as many entries and two batches each."""
        plan = [(k + 1, k * entries, entries, 2 * k, 2, 0, len(files[k])) for k in range(2)]
        disk = StrictDisk()
        for name, content in [("log-00000001", files[0]), ("log-00000002", files[1]),
                              ("plan-00000003", write_plan(plan)),
                              ("mark", write_slot((1, 3, 0, 0, 0, 0, 2 * entries, 4, 4)))]:
            disk.disk.perform(("write", name, 0, content))
        return disk

    def test_a_merged_file_that_would_be_longer(self):
        # The members have streams that are shorter than those of level 9, and too many frames to be
        # packed together.
        source = numbers(8141)
        batches = [[some_bytes(source, 256, 3) for _ in range(5)] for _ in range(4)]
        data = [write_frames(batch) for batch in batches]
        least = [made_member((5 * k, 5, k, 1), deflate_least(data[k]), data[k]) for k in range(4)]
        nine = [write_member(5 * k, k, 1, batches[k], 9) for k in range(4)]
        self.assertLess(sum(map(len, least)), sum(map(len, nine)))
        for members in (least, nine):
            disk = self.disk_with_two_segments([members[0] + members[1], members[2] + members[3]], 10)
            log, disk = opened(disk)
            self.assertEqual(drive(log, ("tidy",), disk), DONE)
            self.assertEqual(log.segments(), [(4, 0, 20, 0, 4, 1, len(sum(members, [])))])
            self.assertEqual(dict(disk.disk.files())["log-00000004"], sum(members, []))
            for again in (log, opened(disk)[0]):
                for start, stop in [(0, 20), (3, 8), (9, 11), (17, 18)]:
                    self.assertEqual(drive(again, ("read", start, stop), disk),
                                     ("done", sum(batches, [])[start:stop]))

    def test_a_merged_file_of_the_same_size(self):
        # The bits behind the end of a stream tell which of the two files is written.
        batches = [[[k] * 256 for _ in range(7)] for k in range(4)]
        members = []
        for k, batch in enumerate(batches):
            frames = write_frames(batch)
            stream = plain_stream(frames, 9)
            self.assertEqual(stream[-1] >> 7, 0)
            members.append(made_member((7 * k, 7, k, 1), stream[:-1] + [stream[-1] + 128], frames))
        disk = self.disk_with_two_segments([members[0] + members[1], members[2] + members[3]], 14)
        log, disk = opened(disk)
        self.assertEqual(drive(log, ("tidy",), disk), DONE)
        merged = sum([write_member(7 * k, k, 1, batch, 9) for k, batch in enumerate(batches)], [])
        self.assertEqual(len(merged), len(sum(members, [])))
        self.assertEqual(dict(disk.disk.files())["log-00000004"], merged)

    def test_no_room_at_each_write(self):
        log, disk = three_segments()
        plan = log.segments()
        one = len(write_member(0, 0, 2, [[0], [1], [2]], 9))
        other = len(write_plan([(8, 0, 3, 0, 2, 1, one), plan[2]]))
        for room in list(range(0, one + other, 5)) + [one - 1, one, one + 1, one + other - 1]:
            log, disk = three_segments()
            before = log.segments(), log.entry_range(), log.active(), state_of(disk)
            files = disk.disk.files()
            disk.disk.set_room(room)
            disk.asked.clear()
            self.assertEqual(drive(log, ("tidy",), disk), NO_ROOM)
            self.assertEqual((log.segments(), log.entry_range(), log.active(), state_of(disk)), before)
            self.assertEqual(disk.disk.files(), files)
            there = ["log-00000008"] * (room > 0) + ["plan-00000009"] * (room > one)
            undo = [("remove", name) for name in there] + [("sync_names",)] * bool(there)
            self.assertEqual(disk.asked[-1 - len(undo):], [("names",)] + undo)
            disk.disk.set_room(None)
            self.assertEqual(drive(log, ("tidy",), disk), DONE)
            self.assertEqual(log.segments()[0][0], 8)

    def test_merges_that_are_finished_stay(self):
        log, disk = opened(full=1)
        for k in range(5):
            drive(log, ("commit", [[k] * 9]), disk)
        plan = log.segments()
        self.assertEqual(len(plan), 4)
        first = len(write_member(0, 0, 2, [[0] * 9, [1] * 9], 9))
        merged = (10, 0, 2, 0, 2, 1, first)
        disk.disk.set_room(first + len(write_plan([merged] + plan[2:])) + 1)
        self.assertEqual(drive(log, ("tidy",), disk), NO_ROOM)
        self.assertEqual(log.segments(), [merged] + plan[2:])
        disk.disk.set_room(None)
        self.assertEqual(drive(log, ("tidy",), disk), DONE)
        self.assertEqual([segment[5] for segment in log.segments()], [2])
        self.assertEqual(drive(log, ("read", 0, 5), disk), ("done", [[k] * 9 for k in range(5)]))


class ReadTest(RunTest):
    def test_every_range(self):
        log, disk = three_segments()
        drive(log, ("commit", [[7], [8]]), disk)
        drive(log, ("drop", 2), disk)
        entries = [[k] for k in range(9)]
        for start in range(-1, 11):
            for stop in range(-1, 11):
                if start < 2:
                    expected = ("failed", "Dropped", 2)
                elif stop > 9:
                    expected = ("failed", "Absent", 9)
                elif stop < start:
                    expected = ("failed", "WrongRange", start)
                else:
                    expected = ("done", entries[start:stop])
                disk.asked.clear()
                self.assertEqual(drive(log, ("read", start, stop), disk), expected)
                members = [(2, 3), (3, 6), (6, 7), (7, 9)]
                wanted = [one for one in members if expected[0] == "done" and start < stop
                          and one[0] < stop and start < one[1]]
                self.assertEqual([request[0] for request in disk.asked], ["read"] * len(wanted))

    def test_the_requests(self):
        log, disk = with_batches([[[1], [2]], [[3]], [[4], [5], [6]]])
        sizes = [len(write_member(0, 0, 1, [[1], [2]], 6)), len(write_member(2, 1, 1, [[3]], 6)),
                 len(write_member(3, 2, 1, [[4], [5], [6]], 6))]
        requests = [("read", "log-00000001", sum(sizes[:k]), sizes[k]) for k in range(3)]
        self.check(log, disk, ("read", 1, 4), requests, ("done", [[2], [3], [4]]))
        self.check(log, disk, ("read", 2, 3), requests[1:2], ("done", [[3]]))
        self.check(log, disk, ("read", 4, 6), requests[2:], ("done", [[5], [6]]))
        self.check(log, disk, ("read", 3, 3), [], ("done", []))
        self.check(log, disk, ("read", 6, 6), [], ("done", []))

    def test_an_empty_log(self):
        log, disk = opened()
        self.check(log, disk, ("read", 0, 0), [], ("done", []))
        self.check(log, disk, ("read", 0, 1), [], ("failed", "Absent", 0))
        self.check(log, disk, ("read", 1, 0), [], ("failed", "WrongRange", 1))
        self.check(log, disk, ("read", -1, 5), [], ("failed", "Dropped", 0))

    def test_the_first_member_that_is_not_accepted(self):
        log, disk = three_segments()
        second, third = [segment[0] for segment in log.segments()[1:]]
        for identifier in (second, third):
            name = "log-%08d" % identifier
            disk.disk.perform(("write", name, 40, [disk.disk.perform(("read", name, 40, 1))[0] ^ 255]))
        disk.asked.clear()
        self.assertEqual(drive(log, ("read", 0, 7), disk), ("failed", "WrongLog", second))
        # The members behind it are not requested.
        self.assertEqual(len(disk.asked), 2)
        self.assertEqual(drive(log, ("read", 3, 7), disk), ("failed", "WrongLog", third))
        self.assertEqual(drive(log, ("read", 6, 7), disk), ("done", [[6]]))
        self.assertEqual(drive(log, ("read", 0, 2), disk), ("done", [[0], [1]]))


class OpenTest(RunTest):
    def test_an_empty_disk(self):
        self.check(Log(), StrictDisk(), ("open",), [("names",)], ("done", (0, 0)))

    def test_the_requests(self):
        log, disk = three_segments()
        drive(log, ("commit", [[7] * 256] * 3), disk)
        files = {name: len(data) for name, data in disk.disk.files()}
        one = len(write_member(6, 3, 1, [[6]], 6))
        requests = [("names",), ("read", "mark", 0, 128), ("size", "plan-00000006"),
                    ("read", "plan-00000006", 0, files["plan-00000006"])]
        for name in ("log-00000001", "log-00000003", "log-00000005"):
            requests += [("size", name), ("read", name, 0, min(64, files[name]))]
        name = "log-00000007"
        requests += [("size", name), ("read", name, 0, 64), ("read", name, one, min(64, files[name] - one))]
        self.check(Log(), disk, ("open",), requests, ("done", (0, 10)))

    def test_files_that_do_not_belong_to_the_state(self):
        log, disk = three_segments()
        clean = disk.disk.files()
        for name in ("zero", "log-00000002", "plan-00000005", "MARK", "log-00000009"):
            disk.disk.perform(("write", name, 0, [1, 2]))
        again = Log()
        disk.asked.clear()
        self.assertEqual(drive(again, ("open",), disk), ("done", (0, 7)))
        self.assertEqual(disk.asked[4:10], [("remove", "MARK"), ("remove", "log-00000002"), ("remove", "log-00000009"),
                                            ("remove", "plan-00000005"), ("remove", "zero"), ("sync_names",)])
        self.assertEqual(disk.disk.files(), clean)
        disk = StrictDisk()
        disk.disk.perform(("write", "log-00000001", 0, [1, 2]))
        self.check(Log(), disk, ("open",), [("names",), ("remove", "log-00000001"), ("sync_names",)], ("done", (0, 0)))

    def test_an_active_segment_that_is_too_long(self):
        log, disk = with_batches([[[1]]])
        size = log.active()[1]
        disk.disk.perform(("write", "log-00000001", size, [1] * 100))
        self.check(Log(), disk, ("open",), [
            ("names",), ("read", "mark", 0, 128), ("size", "log-00000001"), ("cut", "log-00000001", size),
            ("sync", "log-00000001"), ("read", "log-00000001", 0, size)], ("done", (0, 1)))
        self.check(Log(), disk, ("open",), [
            ("names",), ("read", "mark", 0, 128), ("size", "log-00000001"), ("read", "log-00000001", 0, size)],
            ("done", (0, 1)))

    def fails(self, change, place):
        """Opening fails behind a change of the files of three segments and an active one."""
        log, disk = three_segments()
        change(disk.disk)
        again = Log()
        disk.asked.clear()
        self.assertEqual(drive(again, ("open",), disk), ("failed", "WrongLog", place))
        self.assertEqual(again.entry_range(), (0, 0))
        return [short(request) for request in disk.asked]

    def test_files_that_are_missing(self):
        for name, place in [("plan-00000006", 6), ("log-00000001", 1), ("log-00000003", 3), ("log-00000007", 7)]:
            asked = self.fails(lambda disk: disk.perform(("remove", name)), place)
            self.assertNotIn(("size", name), asked)
        # Nothing is removed if the plan is not there.
        def change(disk):
            disk.perform(("remove", "plan-00000006"))
            disk.perform(("write", "other", 0, [1]))
        self.assertEqual(self.fails(change, 6), [("names",), ("read", "mark", 0, 128)])

    def test_a_plan_that_is_not_valid(self):
        self.fails(lambda disk: disk.perform(("cut", "plan-00000006", 20)), 6)
        self.fails(lambda disk: disk.perform(("cut", "plan-00000006", 0)), 6)
        asked = self.fails(lambda disk: disk.perform(("write", "plan-00000006", 3, [1])), 6)
        self.assertEqual([request[0] for request in asked], ["names", "read", "size", "read"])

    def test_sizes_that_are_not_right(self):
        for name, place in [("log-00000001", 1), ("log-00000003", 3), ("log-00000005", 5), ("log-00000007", 7)]:
            asked = self.fails(lambda disk: disk.perform(("cut", name, disk.perform(("size", name)) - 1)), place)
            self.assertEqual(asked[-1], ("size", name))
            if place < 7:
                self.fails(lambda disk: disk.perform(("write", name, disk.perform(("size", name)), [1])), place)

    def test_headers_that_are_not_right(self):
        for name, place in [("log-00000001", 1), ("log-00000003", 3), ("log-00000005", 5), ("log-00000007", 7)]:
            for index in (0, 3, 9, 16, 22, 26, 30, 32, 35):
                asked = self.fails(lambda disk: disk.perform(("write", name, index, [200])), place)
                self.assertEqual(asked[-1][:3], ("read", name, 0))

    def other_plan(self, change):
        """A change of the disk that puts another plan there."""
        def put(disk):
            segments = change(read_plan(dict(disk.files())["plan-00000006"]))
            disk.perform(("cut", "plan-00000006", 0))
            disk.perform(("write", "plan-00000006", 0, write_plan(segments)))
        return put

    def test_numbers_that_do_not_go_on(self):
        for index, place in [(0, 1), (1, 3), (2, 5)]:
            for field in (1, 2, 3, 4):
                for change in (1, -1):
                    def changed(plan):
                        one = list(plan[index])
                        one[field] += change
                        return plan[:index] + [tuple(one)] + plan[index + 1:]
                    if index > 0 or field in (2, 4) or change > 0:
                        self.fails(self.other_plan(changed), place)
        # A plan in which a segment is missing, and segments in another order.
        self.fails(self.other_plan(lambda plan: plan[:1] + plan[2:]), 5)
        self.fails(self.other_plan(lambda plan: [plan[1], plan[0], plan[2]]), 1)
        self.fails(self.other_plan(lambda plan: plan[:2]), 7)

    def other_state(self, change):
        def put(disk):
            state = read_state(dict(disk.files())["mark"])
            place = 0 if state[0] % 2 else 64
            disk.perform(("write", "mark", place, write_slot(change(state))))
        return put

    def test_a_state_that_does_not_fit(self):
        for field, change in [(4, 1), (4, -1), (5, 1), (6, 1), (6, -1), (7, 1), (7, -1), (3, 1), (3, -1)]:
            self.fails(self.other_state(lambda state: state[:field] + (state[field] + change,) + state[field + 1:]), 7)
        self.fails(self.other_state(lambda state: state[:2] + (99,) + state[3:]), 99)
        self.fails(self.other_state(lambda state: state[:1] + (99,) + state[2:]), 99)
        # Without an active segment, the place is the identifier of the plan.
        self.fails(self.other_state(lambda state: state[:2] + (0, 0, 0, 0) + state[6:]), 6)
        for change in ((6, 4), (7, 3), (5, 3)):
            asked = self.fails(self.other_state(lambda state: state[:2] + (0, 0, 0, 0) + change + state[8:]), 6)
            self.assertEqual(asked[-1][:2], ("read", "log-00000005"))
        log, disk = three_segments()
        self.other_state(lambda state: state[:2] + (0, 0, 0, 0, 6, 3) + state[8:])(disk.disk)
        self.assertEqual(drive(Log(), ("open",), disk), ("done", (0, 6)))

    def with_header_size(self, size):
        """Two members in the active segment, the second of which tells another size; and its place."""
        log, disk = with_batches([[[1]], [[2]]])
        place = len(write_member(0, 0, 1, [[1]], 6))
        disk.disk.perform(("write", "log-00000001", place + 12, plain_extra(1, 1, 1, 1, size)))
        return disk, place

    def test_a_member_that_tells_a_wrong_size(self):
        right = len(write_member(1, 1, 1, [[2]], 6))
        disk, place = self.with_header_size(right - 1)
        self.assertEqual(drive(Log(), ("open",), disk), ("failed", "WrongLog", 1))
        for size in (0, right + 1, right + 5, 10 ** 6):
            disk, place = self.with_header_size(size)
            disk.asked.clear()
            self.assertEqual(drive(Log(), ("open",), disk), ("failed", "WrongLog", 1))
            reads = [request[2] for request in disk.asked if request[:2] == ("read", "log-00000001")]
            self.assertEqual(reads, [0, place])

    def test_a_member_that_leads_beyond_the_state(self):
        for end in ((1, 2), (3, 0)):
            log, disk = with_batches([[[1], [2]], [[3]]])
            state = state_of(disk)
            disk.disk.perform(("write", "mark", 64, write_slot(state[:6] + end + state[8:])))
            disk.asked.clear()
            self.assertEqual(drive(Log(), ("open",), disk), ("failed", "WrongLog", 1))
            self.assertEqual(disk.asked[-1][:3], ("read", "log-00000001", 0))

    def test_answers_are_copied(self):
        log, disk = three_segments()
        log = Log()
        log.begin(("open",))
        while log.request() is not None:
            answer = disk.perform(log.request())
            log.answer(answer)
            if isinstance(answer, list):
                answer.clear()
        self.assertEqual(log.result(), ("done", (0, 7)))
        self.assertEqual(drive(log, ("read", 0, 7), disk), ("done", [[k] for k in range(7)]))

    def test_any_mark_of_an_empty_log(self):
        for data in ([1], [77, 65, 82, 75] * 16, [0] * 128):
            disk = StrictDisk()
            disk.disk.perform(("write", "mark", 0, data))
            self.check(Log(), disk, ("open",), [("names",), ("read", "mark", 0, 128)], ("done", (0, 0)))
            self.assertEqual(disk.disk.files(), [("mark", data)])


class WalkTest(Case):
    """Any operations, compared with the plain log request by request."""

    def some_operation(self, source, log):
        word = source.choice(["commit"] * 5 + ["seal", "seal", "tidy", "drop", "read", "read"])
        first, following = log.entry_range()
        if word == "commit":
            return (word, [some_bytes(source, source.choice([0, 1, 3, 30]), 3) for _ in range(source.choice([1, 1, 2, 15]))])
        if word == "drop":
            return (word, source.choice([first, source.randint(first, following + 1)]))
        if word == "read":
            return (word, source.randint(max(0, first - 1), following + 1), source.randint(first, following + 1))
        return (word,)

    def run_both(self, log, plain, operation, disk):
        log.begin(operation)
        plain.begin(operation)
        while log.request() is not None:
            self.assertEqual(log.request(), plain.request())
            answer = disk.perform(log.request())
            log.answer(answer)
            plain.answer(answer)
        self.assertIsNone(plain.request())
        self.assertEqual(log.result(), plain.result())
        for name in ("entry_range", "segments", "active"):
            self.assertEqual(getattr(log, name)(), getattr(plain, name)())

    def test_any_operations(self):
        source = numbers(811)
        for _ in range(50):
            options = {"full": source.choice([1, 100, 300, 4096]), "ratio": source.choice([2, 2, 3, 8])}
            disk = StrictDisk()
            log, plain = Log(**options), PlainLog(**options)
            self.run_both(log, plain, ("open",), disk)
            for _ in range(25):
                if source.random() < 0.3:
                    disk.disk.set_room(source.choice([None, None, 0, source.randrange(400)]))
                self.run_both(log, plain, self.some_operation(source, log), disk)
                if source.random() < 0.15:
                    disk.disk.set_room(None)
                    log, plain = Log(**options), PlainLog(**options)
                    self.run_both(log, plain, ("open",), disk)

    def test_any_damaged_disks(self):
        source = numbers(812)
        for _ in range(10):
            log, disk = opened(full=source.choice([1, 200]))
            for _ in range(6):
                drive(log, ("commit", [some_bytes(source, 5, 3)]), disk)
            for _ in range(12):
                damaged = disk.disk.crash([])
                name = source.choice(damaged.perform(("names",)))
                size = damaged.perform(("size", name))
                at = source.choice([source.randrange(size), source.randrange(min(size, 40))])
                change = source.randrange(3)
                if change == 0:
                    damaged.perform(("remove", name))
                elif change == 1:
                    damaged.perform(("cut", name, at))
                else:
                    damaged.perform(("write", name, at, some_bytes(source, source.choice([1, 4]))))
                self.run_both(Log(), PlainLog(), ("open",), StrictDisk(damaged))


class StateTest(Case):
    def test_the_empty_state(self):
        self.assertEqual(read_state([]), EMPTY)

    def test_every_file_is_a_gzip_file(self):
        log, disk = opened(full=60)
        entries = []
        for k in range(9):
            entries.append([k] * k)
            drive(log, ("commit", entries[-1:]), disk)
            for name, data in disk.disk.files():
                if name != "mark":
                    gzip.decompress(bytes(data))
            self.assertEqual(frames_on(disk, log), write_frames(entries))

    def test_a_plain_disk_and_drive(self):
        disk = Disk()
        log = Log()
        self.assertEqual(drive(log, ("open",), disk), ("done", (0, 0)))
        self.assertEqual(drive(log, ("commit", [[1, 2], []]), disk), ("done", 0))
        self.assertEqual(drive(log, ("read", 0, 2), disk), ("done", [[1, 2], []]))
        self.assertEqual(drive(Log(), ("open",), disk), ("done", (0, 2)))


if __name__ == "__main__":
    unittest.main()
