"""Point 4 and bellows/errors.py."""

import inspect
import unittest

from bellows import errors
from bellows.errors import BellowsError

NAMES = """
    OutOfRange Truncated LooseNumber TooManyCodes NoCode BadCode TooNarrow TooFar NoParse BadKind
    BadStored BadCount BadLengths BadRepeat NoEnd BadLetters BadDistances BadSymbol TooMuch NotLegal
    NotEntered InvalidLevel InvalidStrategy InvalidWindow InvalidRoom InvalidFlush InvalidTuning
    InvalidPrime InvalidAmount TooLate Finished Busy NotNow WrongMethod WrongWindow WrongHeader
    NeedsDictionary WrongDictionary WrongSum WrongMagic WrongFlags WrongLength WrongMember Extra
    NotIndependent WrongRecipe NoRoom NotOpen WrongLog WrongFrames Dropped Absent WrongRange
""".split()


class ErrorsTest(unittest.TestCase):
    def test_the_module_has_these_classes_and_no_others(self):
        found = [name for name, value in vars(errors).items() if inspect.isclass(value)]
        self.assertEqual(len(NAMES), 53)
        self.assertEqual(sorted(found), sorted(NAMES + ["BellowsError"]))

    def test_each_stands_directly_below_the_base(self):
        self.assertEqual(BellowsError.__bases__, (ValueError,))
        for name in NAMES:
            self.assertEqual(getattr(errors, name).__bases__, (BellowsError,), name)

    def test_each_is_of_none_of_the_other_classes(self):
        for name in NAMES:
            error = getattr(errors, name)(3)
            self.assertIsInstance(error, BellowsError)
            self.assertIsInstance(error, ValueError)
            fitting = [other for other in NAMES if isinstance(error, getattr(errors, other))]
            self.assertEqual(fitting, [name])

    def test_each_keeps_its_integer(self):
        for name in NAMES + ["BellowsError"]:
            for at in (0, 1, 7, -1, -258, 2 ** 70):
                self.assertEqual(getattr(errors, name)(at).at, at, name)
                self.assertIs(type(getattr(errors, name)(at).at), int, name)

    def test_each_is_created_with_exactly_one_integer(self):
        for name in NAMES + ["BellowsError"]:
            self.assertRaises(TypeError, getattr(errors, name))
            self.assertRaises(TypeError, getattr(errors, name), 1, 2)

    def test_two_errors_do_not_share_their_integers(self):
        first = errors.Truncated(8)
        second = errors.Truncated(16)
        self.assertEqual((first.at, second.at), (8, 16))


if __name__ == "__main__":
    unittest.main()
