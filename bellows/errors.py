"""The errors of the program (point 4): each of them has one integer, `at`."""


class BellowsError(ValueError):
    """The base class of all errors of the program. The points of the document say what `at` is."""

    def __init__(self, at):
        self.at = at


class OutOfRange(BellowsError):
    """An argument has a value that is not allowed."""


class Truncated(BellowsError):
    """The input ends too early."""


class LooseNumber(BellowsError):
    """A step number has more bytes than it needs."""


class TooManyCodes(BellowsError):
    """Code lengths are oversubscribed."""


class NoCode(BellowsError):
    """A symbol has no code."""


class BadCode(BellowsError):
    """The bits that come next begin no code."""


class TooNarrow(BellowsError):
    """There are more symbols than codes of the greatest length."""


class TooFar(BellowsError):
    """A copy reaches too far back."""


class NoParse(BellowsError):
    """No list of tokens stands for the data."""


class BadKind(BellowsError):
    """A block has the kind 3."""


class BadStored(BellowsError):
    """The size of a stored block and its complement disagree."""


class BadCount(BellowsError):
    """The head of a block counts too many letters or distances."""


class BadLengths(BellowsError):
    """The small numbers of a head are not complete."""


class BadRepeat(BellowsError):
    """A row of a head repeats nothing, or too much."""


class NoEnd(BellowsError):
    """The end of a block has no code."""


class BadLetters(BellowsError):
    """The code lengths of the letters form no code."""


class BadDistances(BellowsError):
    """The code lengths of the distances form no code."""


class BadSymbol(BellowsError):
    """A symbol was read that stands for nothing."""


class TooMuch(BellowsError):
    """The output is longer than its limit."""


class NotLegal(BellowsError):
    """Blocks cannot be stored as a stream."""


class NotEntered(BellowsError):
    """A position has not been entered into the chains."""


class InvalidLevel(BellowsError):
    """There is no such level."""


class InvalidStrategy(BellowsError):
    """There is no such strategy."""


class InvalidWindow(BellowsError):
    """The window of an encoder has a size that is not allowed."""


class InvalidRoom(BellowsError):
    """The room of an encoder has a size that is not allowed."""


class InvalidFlush(BellowsError):
    """There is no such kind of flush."""


class InvalidTuning(BellowsError):
    """A tuned number is out of its range."""


class InvalidPrime(BellowsError):
    """The first bits are too many, or do not hold their value."""


class InvalidAmount(BellowsError):
    """An amount is negative."""


class TooLate(BellowsError):
    """Something was fed or written before."""


class Finished(BellowsError):
    """The encoder has finished."""


class Busy(BellowsError):
    """Something else is not done yet."""


class NotNow(BellowsError):
    """The state of the object does not allow this."""


class WrongMethod(BellowsError):
    """A header names another method than DEFLATE."""


class WrongWindow(BellowsError):
    """A header names a window that does not exist."""


class WrongHeader(BellowsError):
    """A header does not pass its own check."""


class NeedsDictionary(BellowsError):
    """The text was made with a dictionary, and none was given."""


class WrongDictionary(BellowsError):
    """The dictionary given is not the one of the text."""


class WrongSum(BellowsError):
    """A checksum differs from the one of the data."""


class WrongMagic(BellowsError):
    """A member does not begin with its two numbers."""


class WrongFlags(BellowsError):
    """A header has flags that do not exist."""


class WrongLength(BellowsError):
    """A length differs from the one of the data."""


class WrongMember(BellowsError):
    """A member, or what is to become one, has another form."""


class Extra(BellowsError):
    """Bytes follow where the input has to end."""


class NotIndependent(BellowsError):
    """A copy reaches behind the blocks that are cut out."""


class WrongRecipe(BellowsError):
    """No stream has this data and this recipe."""


class NoRoom(BellowsError):
    """The disk has no room left."""


class NotOpen(BellowsError):
    """The log is not open, or was opened before."""


class WrongLog(BellowsError):
    """The files of the log do not fit together."""


class WrongFrames(BellowsError):
    """Data is not a list of frames."""


class Dropped(BellowsError):
    """The entries were dropped."""


class Absent(BellowsError):
    """The entries do not exist yet."""


class WrongRange(BellowsError):
    """A range ends before it starts."""
