"""A log for the tests, word by word as points 807 to 817 say it: each operation is a generator that
yields requests and is sent their answers."""

from bellows.errors import BellowsError
from bellows.log.disk import Disk
from bellows.log.mark import read_plan, read_state, write_plan, write_slot
from bellows.log.records import read_header, read_member, write_frames, write_member

EMPTY = (0, 0, 0, 0, 0, 0, 0, 0, 1)


class Failed(Exception):
    pass


def log_name(number):
    return "log-%08d" % number


def plan_name(number):
    return "plan-%08d" % number


class PlainLog:
    """After `begin`, like a log."""

    def __init__(self, full=1024, ratio=2):
        self.full = full
        self.ratio = ratio
        self.state = EMPTY
        self.plan = []
        # For each identifier of a segment: (start, size, first entry, number of entries).
        self.known = {}
        self.running = None
        self.due = None
        self.ended = None

    # Running an operation

    def begin(self, operation):
        self.running = getattr(self, "do_" + operation[0])(*operation[1:])
        self.go_on(None)

    def answer(self, value):
        self.go_on(value)

    def go_on(self, value):
        try:
            self.due = self.running.send(value)
        except StopIteration as end:
            self.due = None
            self.ended = ("done", end.value)
        except Failed as failed:
            self.due = None
            self.ended = ("failed",) + failed.args

    def request(self):
        return self.due

    def result(self):
        return self.ended

    # What is known

    def first_entry(self):
        if self.plan:
            return self.plan[0][1]
        return self.state[4] if self.state[2] else self.state[6]

    def entry_range(self):
        return (self.first_entry(), self.state[6])

    def segments(self):
        return list(self.plan)

    def active(self):
        return self.state[2:4] if self.state[2] else None

    @staticmethod
    def belonging(state, plan):
        names = {log_name(segment[0]) for segment in plan}
        names |= {log_name(state[2])} if state[2] else set()
        return names | ({plan_name(state[1])} if state[1] else set())

    # The operations

    def do_open(self):
        state, plan, known = EMPTY, [], {}
        names = yield ("names",)
        if "mark" in names:
            state = read_state((yield ("read", "mark", 0, 128)))
        if state[1]:
            name = plan_name(state[1])
            if name not in names:
                raise Failed("WrongLog", state[1])
            size = yield ("size", name)
            data = yield ("read", name, 0, size)
            try:
                plan = read_plan(data)
            except BellowsError:
                raise Failed("WrongLog", state[1])
        others = [name for name in names if name != "mark" and name not in self.belonging(state, plan)]
        for name in sorted(others):
            yield ("remove", name)
        if others:
            yield ("sync_names",)
        wanted = [(one[0], one[1], one[1] + one[2], one[3], one[3] + one[4], one[6]) for one in plan]
        if state[2]:
            wanted.append((state[2], state[4], state[6], state[5], state[7], state[3]))
        place = (wanted[0][1], wanted[0][3]) if wanted else None
        for number, entry, entry_end, batch, batch_end, size in wanted:
            name = log_name(number)
            if name not in names:
                raise Failed("WrongLog", number)
            found = yield ("size", name)
            if found < size or (found > size and number != state[2]):
                raise Failed("WrongLog", number)
            if found > size:
                yield ("cut", name, size)
                yield ("sync", name)
            known[number] = []
            at = 0
            while at < size:
                data = yield ("read", name, at, min(64, size - at))
                try:
                    one_entry, count, one_batch, batches, bytes_of_member = read_header(data)
                except BellowsError:
                    raise Failed("WrongLog", number)
                if at == 0 and place != (entry, batch) or (one_entry, one_batch) != place:
                    raise Failed("WrongLog", number)
                if not 0 < bytes_of_member <= size - at:
                    raise Failed("WrongLog", number)
                place = place[0] + count, place[1] + batches
                if place[0] > entry_end or place[1] > batch_end:
                    raise Failed("WrongLog", number)
                known[number].append((at, bytes_of_member, one_entry, count))
                at += bytes_of_member
            if place != (entry_end, batch_end):
                raise Failed("WrongLog", number)
        if plan and not state[2] and place != state[6:8]:
            raise Failed("WrongLog", state[1])
        self.state, self.plan, self.known = state, plan, known
        return self.entry_range()

    def commit_state(self, state):
        """Point 809; returns whether there was room."""
        if not (yield ("write", "mark", 0 if state[0] % 2 else 64, write_slot(state))):
            return False
        yield ("sync", "mark")
        if state[0] == 1:
            yield ("sync_names",)
        return True

    def do_commit(self, entries):
        if self.state[2] and self.state[3] >= self.full:
            yield from self.do_seal()
        turn, plan, active, size, entry, batch, next_entry, next_batch, following = self.state
        is_new = not active
        if is_new:
            active, entry, batch, following = following, next_entry, next_batch, following + 1
        member = write_member(next_entry, next_batch, 1, entries, 6)
        name = log_name(active)
        fits = yield ("write", name, size, member)
        if fits:
            yield ("sync", name)
            if is_new:
                yield ("sync_names",)
            state = (turn + 1, plan, active, size + len(member), entry, batch, next_entry + len(entries),
                     next_batch + 1, following)
            fits = yield from self.commit_state(state)
        if not fits:
            if is_new:
                if name in (yield ("names",)):
                    yield ("remove", name)
                    yield ("sync_names",)
            else:
                yield ("cut", name, size)
                yield ("sync", name)
            raise Failed("NoRoom", 0)
        self.state = state
        self.known.setdefault(active, []).append((size, len(member), next_entry, len(entries)))
        return next_entry

    def change(self, plan, active, segment):
        """Point 815; `segment` is the new segment as (identifier, bytes), if there is one."""
        following = self.state[8]
        files = []
        if segment:
            files.append((log_name(segment[0]), segment[1]))
            following += 1
        number = 0
        if plan:
            number = following
            files.append((plan_name(number), write_plan(plan)))
            following += 1
        state = (self.state[0] + 1, number) + active + self.state[6:8] + (following,)
        fits = True
        for name, data in files:
            fits = fits and (yield ("write", name, 0, data))
            if fits:
                yield ("sync", name)
        if fits and files:
            yield ("sync_names",)
        fits = fits and (yield from self.commit_state(state))
        if not fits:
            names = yield ("names",)
            there = sorted(name for name, _ in files if name in names)
        else:
            there = sorted(self.belonging(self.state, self.plan) - self.belonging(state, plan))
            self.state, self.plan = state, plan
        for name in there:
            yield ("remove", name)
        if there:
            yield ("sync_names",)
        if not fits:
            raise Failed("NoRoom", 0)

    def do_seal(self):
        if self.state[2]:
            _, _, active, size, entry, batch, next_entry, next_batch, _ = self.state
            last = (active, entry, next_entry - entry, batch, next_batch - batch, 0, size)
            yield from self.change(self.plan + [last], (0, 0, 0, 0), None)

    def do_drop(self, entry):
        kept = list(self.plan)
        while kept and kept[0][1] + kept[0][2] - 1 < entry:
            kept.pop(0)
        if kept != self.plan:
            yield from self.change(kept, self.state[2:6], None)

    def group(self):
        for first in range(len(self.plan)):
            ranks = [one[5] for one in self.plan[first:first + self.ratio]]
            if len(ranks) == self.ratio and len(set(ranks)) == 1:
                return first
        return None

    def do_tidy(self):
        while self.group() is not None:
            first = self.group()
            group = self.plan[first:first + self.ratio]
            files = []
            for one in group:
                size = yield ("size", log_name(one[0]))
                files.append((yield ("read", log_name(one[0]), 0, size)))
            joined = sum(files, [])
            members = []
            at = 0
            while at < len(joined):
                entry, batch, batches, entries, after = read_member(joined, at)
                frames = len(write_frames(entries))
                if members and members[-1][2] + batches <= 16 and members[-1][4] + frames <= 2048:
                    before = members.pop()
                    members.append((before[0], before[1], before[2] + batches, before[3] + entries, before[4] + frames))
                else:
                    members.append((entry, batch, batches, entries, frames))
                at = after
            data = sum((write_member(*one[:4], 9) for one in members), [])
            if len(data) > len(joined):
                data = joined
            number = self.state[8]
            merged = (number, group[0][1], sum(one[2] for one in group), group[0][3], sum(one[4] for one in group),
                      group[0][5] + 1, len(data))
            plan = self.plan[:first] + [merged] + self.plan[first + self.ratio:]
            yield from self.change(plan, self.state[2:6], (number, data))
            self.known[number] = []
            at = 0
            while at < len(data):
                entry, _, _, entries, after = read_member(data, at)
                self.known[number].append((at, after - at, entry, len(entries)))
                at = after

    def do_read(self, start, stop):
        if start < self.first_entry():
            raise Failed("Dropped", self.first_entry())
        if stop > self.state[6]:
            raise Failed("Absent", self.state[6])
        if stop < start:
            raise Failed("WrongRange", start)
        found = []
        for number in [one[0] for one in self.plan] + [self.state[2]] * bool(self.state[2]):
            for at, size, first, count in self.known[number]:
                if set(range(first, first + count)) & set(range(start, stop)):
                    data = yield ("read", log_name(number), at, size)
                    try:
                        entries = read_member(data, 0)[3]
                    except BellowsError:
                        raise Failed("WrongLog", number)
                    found += [entry for k, entry in enumerate(entries) if start <= first + k < stop]
        return found


class StrictDisk:
    """A disk that checks the rules of point 802 for the requests of a log, and keeps them."""

    def __init__(self, disk=None):
        self.disk = Disk() if disk is None else disk
        self.asked = []

    def perform(self, request):
        self.asked.append(request)
        word = request[0]
        assert type(request) is tuple and type(word) is str
        sizes = {name: len(data) for name, data in self.disk.files()}
        if word in ("size", "read", "cut", "remove", "sync"):
            assert request[1] in sizes, request
        if word == "write":
            assert type(request[3]) is list and request[3], request
            assert request[2] <= sizes.get(request[1], 0), request
        if word == "cut":
            assert 0 <= request[2] <= sizes[request[1]], request
        return self.disk.perform(request)
