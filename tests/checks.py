"""What several tests share."""

import random
import unittest


class Case(unittest.TestCase):
    """A test case that can also tell what an error has as its `at`."""

    def assert_error(self, kind, at, function, *values, **named):
        with self.assertRaises(kind) as caught:
            function(*values, **named)
        self.assertIs(type(caught.exception), kind)
        self.assertEqual(caught.exception.at, at)

    def assert_new_list(self, function, *values):
        """Two calls give equal lists that do not depend on each other."""
        first = function(*values)
        second = function(*values)
        self.assertIs(type(first), list)
        self.assertEqual(first, second)
        self.assertIsNot(first, second)
        first.append("changed")
        self.assertEqual(function(*values), second)


def numbers(seed):
    """A source of the same numbers in every run."""
    return random.Random(seed)


def some_bytes(source, count, greatest=255):
    return [source.randint(0, greatest) for _ in range(count)]


def complete_lengths(source, count, most=15):
    """Complete code lengths for `count` symbols, at least two: leaves of a tree that is split."""
    leaves = [1, 1]
    while len(leaves) < count:
        open_leaves = [index for index, length in enumerate(leaves) if length < most]
        index = source.choice(open_leaves)
        leaves[index] += 1
        leaves.append(leaves[index])
    source.shuffle(leaves)
    return leaves
