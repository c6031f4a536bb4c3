"""What holds over several parts of the program: sessions, texts, streams and the log."""

import gzip
import unittest

from bellows.desk.session import Session
from bellows.log.disk import Disk, drive
from bellows.log.store import Log
from bellows.ways.join import gzip_merge
from bellows.ways.recipe import rebuild, recipe, squeeze
from bellows.ways.salvage import salvage
from bellows.wraps.gzips import gzip_read, member_at, plain_header, read_header
from checks import Case, numbers, some_bytes


def transcript_of(data, flushes=(), level=6, wrapper="gzip"):
    session = Session(wrapper, level, 0, 32768, [])
    for at in range(0, len(data), 50):
        session.act(("feed", data[at:at + 50]))
        if at // 50 in flushes:
            session.act(("flush", 4))
    session.act(("finish",))
    return session.transcript()


class TranscriptTest(Case):
    def test_transcripts_one_behind_the_other_are_a_gzip_text(self):
        source = numbers(1)
        parts = [some_bytes(source, size, 3) for size in (0, 1, 60, 300, 0)]
        text = sum([transcript_of(data, (1, 3), 1 + size) for size, data in enumerate(parts)], [])
        self.assertEqual(gzip_read(text), [(plain_header(), data) for data in parts])
        self.assertEqual(list(gzip.decompress(bytes(text))), sum(parts, []))
        merged = gzip_merge(text)
        self.assertEqual(gzip_read(merged), [(plain_header(), sum(parts, []))])
        self.assertEqual([find[2:] for find in salvage(text)],
                         [(data, "whole") for data in parts if data])

    def test_streams_of_transcripts(self):
        data = some_bytes(numbers(2), 250, 3)
        stream = transcript_of(data, (2,), 9, "raw")
        self.assertEqual(rebuild(data, recipe(stream)), stream)
        self.assertLessEqual(len(squeeze(stream)), len(stream))

    def test_damaged_transcripts_are_salvaged_behind_a_flush(self):
        source = numbers(3)
        data = some_bytes(source, 400, 3)
        text = transcript_of(data, (3,))
        _, start = read_header(text, 0)
        for _ in range(20):
            at = source.randrange(start, start + 20)
            damaged = text[:at] + [text[at] ^ source.randint(1, 255)] + text[at + 1:]
            self.assertIn(data[200:], [find[2][-200:] for find in salvage(damaged)])


class LoggedTest(Case):
    def entries_of(self, text):
        return [text[at:at + 100] for at in range(0, len(text), 100)]

    def test_a_transcript_kept_in_a_log_with_crashes_between(self):
        source = numbers(4)
        for _ in range(10):
            data = some_bytes(source, 600, source.choice([3, 255]))
            text = transcript_of(data, (2, 7))
            entries = self.entries_of(text)
            disk = Disk()
            options = {"full": source.choice([100, 1024])}
            log = Log(**options)
            self.assertEqual(drive(log, ("open",), disk), ("done", (0, 0)))
            following = 0
            while following < len(entries):
                many = source.randint(1, 3)
                log.begin(("commit", entries[following:following + many]))
                left = source.choice([99, 99, source.randrange(8)])
                while log.request() is not None and left:
                    log.answer(disk.perform(log.request()))
                    left -= 1
                if log.request() is not None or source.random() < 0.2:
                    disk = disk.crash([source.randrange(20) for _ in range(40)])
                    log = Log(**options)
                    self.assertEqual(drive(log, ("open",), disk)[0], "done")
                elif source.random() < 0.3:
                    drive(log, source.choice([("seal",), ("tidy",)]), disk)
                following = log.entry_range()[1]
            result = drive(log, ("read", 0, len(entries)), disk)
            self.assertEqual(result, ("done", entries))
            self.assertEqual(member_at(sum(result[1], []), 0), (plain_header(), data, len(text)))

    def test_segments_are_gzip_texts(self):
        disk = Disk()
        log = Log(full=60)
        drive(log, ("open",), disk)
        entries = [[k] * 5 for k in range(6)]
        for entry in entries:
            drive(log, ("commit", [entry]), disk)
        frames = []
        for name, data in disk.files():
            if name.startswith("log-"):
                frames += [frame for _, frame in gzip_read(data)]
                self.assertEqual([find[2] for find in salvage(data)], [found for _, found in gzip_read(data)])
        self.assertEqual(frames, [[5] + entry for entry in entries])


if __name__ == "__main__":
    unittest.main()
