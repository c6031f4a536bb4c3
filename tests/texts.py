"""Texts for the tests: headers and checksums written plainly, and a plain reader of texts in parts."""

import zlib

from bellows.errors import (
    BellowsError, NeedsDictionary, NotNow, Truncated, WrongDictionary, WrongFlags, WrongHeader,
    WrongLength, WrongMagic, WrongMethod, WrongSum, WrongWindow,
)
from streams import PlainUnits


def lowest_first(number, count=4):
    return list(number.to_bytes(count, "little"))


def highest_first(number, count=4):
    return list(number.to_bytes(count, "big"))


def plain_header(is_text=False, time=0, hint=0, system=255, extra=None, name=None, comment=None,
                 is_checked=False):
    """The bytes of a header (point 605)."""
    flags = is_text * 1 + is_checked * 2 + (extra is not None) * 4 + (name is not None) * 8
    found = [31, 139, 8, flags + (comment is not None) * 16] + lowest_first(time) + [hint, system]
    if extra is not None:
        found += lowest_first(len(extra), 2) + extra
    for words in (name, comment):
        if words is not None:
            found += words + [0]
    if is_checked:
        found += lowest_first(zlib.crc32(bytes(found)) % 65536, 2)
    return found


def plain_member(stream, data, *fields):
    return plain_header(*fields) + stream + lowest_first(zlib.crc32(bytes(data))) + lowest_first(len(data))


def deflated(data, level=6):
    """A stream without a wrapper, as zlib writes it."""
    writer = zlib.compressobj(level, zlib.DEFLATED, -15)
    return list(writer.compress(bytes(data)) + writer.flush())


def member_of(data, level=6):
    return plain_member(deflated(data, level), data)


def zlib_head(method, level=2, dictionary=False):
    """The two bytes of a header that is right, for any method byte."""
    flags = 64 * level + 32 * dictionary
    return [method, flags + (31 - (256 * method + flags) % 31) % 31]


def zlib_text(data, level=6, dictionary=None, bits=15):
    if dictionary is None:
        writer = zlib.compressobj(level, zlib.DEFLATED, bits)
    else:
        writer = zlib.compressobj(level, zlib.DEFLATED, bits, 8, 0, bytes(dictionary))
    return list(writer.compress(bytes(data)) + writer.flush())


class Bytes:
    """Reads a text byte by byte."""

    def __init__(self, text, at=0):
        self.text = text
        self.at = at

    def one(self):
        if self.at >= len(self.text):
            raise Truncated(8 * len(self.text))
        self.at += 1
        return self.text[self.at - 1]

    def some(self, count):
        return [self.one() for _ in range(count)]

    def words(self):
        return list(iter(self.one, 0))


def plain_read_header(source):
    """The header at the place of a `Bytes`, as point 607 says it."""
    start = source.at
    for magic in (31, 139):
        if source.one() != magic:
            raise WrongMagic(8 * (source.at - 1))
    if source.one() != 8:
        raise WrongMethod(8 * (start + 2))
    flags = source.one()
    if flags >= 32:
        raise WrongFlags(8 * (start + 3))
    time = int.from_bytes(source.some(4), "little")
    hint, system = source.some(2)
    extra = source.some(int.from_bytes(source.some(2), "little")) if flags & 4 else None
    name = source.words() if flags & 8 else None
    comment = source.words() if flags & 16 else None
    if flags & 2:
        at = source.at
        expected = zlib.crc32(bytes(source.text[start:at])) % 65536
        if source.some(2) != lowest_first(expected, 2):
            raise WrongHeader(8 * at)
    return (bool(flags & 1), time, hint, system, extra, name, comment, bool(flags & 2))


class PlainText:
    """The items and units of a text, as far as they can be executed, each as the list of its bytes.

    `error` is the error of the next one, a `Truncated` if it is incomplete, and None if there is none.
    """

    def __init__(self, text, limit):
        self.source = Bytes(text)
        self.limit = limit
        self.units = []
        self.error = None
        try:
            self.read()
        except BellowsError as error:
            self.error = error

    def made(self):
        return sum(map(len, self.units))

    def read_stream(self, dictionary, window):
        """Read a stream, and return its data."""
        before = self.made()
        found = PlainUnits(self.source.text, 8 * self.source.at, dictionary, self.limit, window, before)
        self.units += [unit[1] for unit in found.units]
        if found.error is not None:
            raise found.error
        self.source.at = (found.reader.at + 7) // 8
        return bytes(found.output())


class PlainZlib(PlainText):
    def __init__(self, text, limit, dictionary):
        self.dictionary = dictionary
        self.head = None
        self.end = None
        super().__init__(text, limit)

    def read(self):
        method, flags = self.source.some(2)
        if method % 16 != 8:
            raise WrongMethod(0)
        if method // 16 > 7:
            raise WrongWindow(0)
        if (256 * method + flags) % 31:
            raise WrongHeader(8)
        self.units.append([])
        window = 2 ** (method // 16 + 8)
        self.head = window, flags // 64, None
        if flags & 32:
            checksum = int.from_bytes(self.source.some(4), "big")
            self.head = window, flags // 64, checksum
            if self.dictionary is None:
                raise NeedsDictionary(16)
            if checksum != zlib.adler32(bytes(self.dictionary)):
                raise WrongDictionary(16)
            self.units.append([])
        data = self.read_stream(self.dictionary if flags & 32 else [], window)
        at = self.source.at
        if self.source.some(4) != highest_first(zlib.adler32(data)):
            raise WrongSum(8 * at)
        self.units.append([])
        self.end = self.source.at


class PlainGzip(PlainText):
    def __init__(self, text, limit):
        self.members = []
        super().__init__(text, limit)

    def read(self):
        while not self.members or self.source.at < len(self.source.text):
            start = self.source.at
            header = plain_read_header(self.source)
            self.units.append([])
            # The number of units behind which the header counts as read comes last.
            self.members.append((header, 8 * start, self.made(), len(self.units)))
            data = self.read_stream([], 32768)
            at = self.source.at
            if self.source.some(4) != lowest_first(zlib.crc32(data)):
                raise WrongSum(8 * at)
            if self.source.some(4) != lowest_first(len(data)):
                raise WrongLength(8 * at + 32)
            self.units.append([])


class Model:
    """A reader as points 453 and 610 to 612 say it, which reads the whole input anew each time."""

    def __init__(self, limit):
        self.limit = limit
        self.input = []
        self.owed_bytes = []
        self.count = 0
        self.executed = 0
        self.known = None

    def plain(self):
        if self.known is None or self.known[0] != len(self.input):
            self.known = len(self.input), self.anew()
        return self.known[1]

    def next_unit(self):
        """ "complete", "incomplete", "none", or the error. """
        plain = self.plain()
        if self.executed < len(plain.units):
            return "complete"
        if plain.error is None:
            return "none"
        return "incomplete" if isinstance(plain.error, Truncated) else plain.error

    def feed(self, part, room=None):
        self.input += part
        while (room is None or len(self.owed_bytes) < room) and self.next_unit() == "complete":
            self.owed_bytes += self.plain().units[self.executed]
            self.executed += 1
        if self.owed_bytes:
            count = len(self.owed_bytes) if room is None else room
            out, self.owed_bytes = self.owed_bytes[:count], self.owed_bytes[count:]
            self.count += len(out)
            return out
        if isinstance(self.next_unit(), BellowsError):
            raise self.next_unit()
        return []

    def given(self):
        return self.count

    def owed(self):
        return len(self.owed_bytes)

    def ended(self):
        return self.next_unit() == "none" and not self.owed_bytes

    def waits(self):
        return self.next_unit() == "incomplete" and not self.owed_bytes

    def close(self):
        if isinstance(self.next_unit(), BellowsError):
            raise self.next_unit()
        if self.next_unit() != "none":
            raise Truncated(8 * len(self.input))


class ZlibModel(Model):
    def __init__(self, dictionary, limit):
        super().__init__(limit)
        self.dictionary = dictionary

    def anew(self):
        return PlainZlib(self.input, self.limit, self.dictionary)

    def rest(self):
        return self.input[self.plain().end:] if self.next_unit() == "none" else []

    def head(self):
        return self.plain().head if self.executed else None

    def set_dictionary(self, dictionary):
        if not isinstance(self.next_unit(), NeedsDictionary):
            raise NotNow(0)
        if self.plain().head[2] != zlib.adler32(bytes(dictionary)):
            raise WrongDictionary(16)
        self.dictionary = dictionary
        self.known = None
        self.executed += 1


class GzipModel(Model):
    def anew(self):
        return PlainGzip(self.input, self.limit)

    def members(self):
        return [member[:3] for member in self.plain().members if member[3] <= self.executed]
