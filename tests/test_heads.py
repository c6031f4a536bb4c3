"""Points 503 and 504, and bellows/deflate/heads.py."""

import itertools
import unittest

from bellows.codes.shortest import shortest
from bellows.deflate.heads import head_of, head_size, rows_of
from checks import Case, complete_lengths, numbers
from streams import NUMBER_ORDER, ROW_SIZES, head_bits, plain_list, some_code


def all_rows(lengths, at=0):
    """All lists of rows that describe the list from an index on."""
    if at == len(lengths):
        return [[]]
    found = []
    for row, size in rows_at(lengths, at):
        found += [[row] + rest for rest in all_rows(lengths, at + size)]
    return found


def rows_at(lengths, at):
    """All rows that are possible at an index, with the numbers of elements that they describe."""
    same = len(list(itertools.takewhile(lambda one: one == lengths[at], lengths[at:])))
    found = [((lengths[at], 0), 1)]
    if at > 0 and lengths[at - 1] == lengths[at]:
        found += [((16, size - 3), size) for size in range(3, min(same, 6) + 1)]
    if lengths[at] == 0:
        found += [((17, size - 3), size) for size in range(3, min(same, 10) + 1)]
        found += [((18, size - 11), size) for size in range(11, min(same, 138) + 1)]
    return found


def size_of(row):
    return ROW_SIZES.get(row[0], 1) + row[1]


def order(rows):
    return len(rows), [(-size_of(row), row[0]) for row in rows]


def searched(lengths):
    """Point 503 by a plain search of all lists of rows."""
    return min(all_rows(lengths), key=order)


def computed(lengths):
    """The same for longer lists, from the end to the start."""
    best = [None] * len(lengths) + [(0, [], [])]
    for at in reversed(range(len(lengths))):
        for row, size in rows_at(lengths, at):
            many, keys, rows = best[at + size]
            found = (many + 1, [(-size, row[0])] + keys, [row] + rows)
            if best[at] is None or found < best[at]:
                best[at] = found
    return best[0][-1]


class RowsTest(Case):
    def test_by_hand(self):
        for lengths, rows in [
                ([5], [(5, 0)]), ([0], [(0, 0)]), ([5, 5, 5], [(5, 0)] * 3), ([0, 0], [(0, 0)] * 2),
                ([5] * 4, [(5, 0), (16, 0)]), ([5] * 7, [(5, 0), (16, 3)]), ([0] * 3, [(17, 0)]),
                ([5] * 8, [(5, 0), (16, 3), (5, 0)]), ([5] * 9, [(5, 0), (16, 2), (16, 0)]),
                ([0] * 10, [(17, 7)]), ([0] * 11, [(18, 0)]), ([0] * 138, [(18, 127)]),
                ([0] * 139, [(18, 127), (0, 0)]), ([0] * 140, [(18, 126), (16, 0)]),
                ([0] * 141, [(18, 127), (16, 0)]), ([0] * 144, [(18, 127), (16, 3)]),
                ([0] * 145, [(18, 127), (17, 4)]), ([0] * 148, [(18, 127), (17, 7)]),
                ([0] * 149, [(18, 127), (18, 0)]),
                ([3, 0, 0, 0, 0, 3, 3], [(3, 0), (17, 1), (3, 0), (3, 0)])]:
            self.assertEqual(rows_of(lengths), rows, lengths)

    def test_all_short_lists(self):
        for size in range(1, 9):
            for lengths in itertools.product((0, 3), repeat=size):
                self.assertEqual(rows_of(list(lengths)), searched(lengths))

    def test_short_lists_of_long_runs(self):
        source = numbers(503)
        for length in (0, 1, 15):
            for size in range(1, 15):
                self.assertEqual(rows_of([length] * size), searched([length] * size))
        for _ in range(150):
            lengths = []
            while len(lengths) < 11:
                lengths += [source.choice([0, 0, 2, 9])] * source.randint(1, 8)
            lengths = lengths[:12]
            self.assertEqual(rows_of(lengths), searched(lengths))

    def test_runs_of_every_size(self):
        for length in (0, 7):
            expected = computed_run(length, 320)
            for size in range(1, 321):
                self.assertEqual(rows_of([length] * size), expected[size], size)

    def test_long_lists(self):
        source = numbers(5031)
        for _ in range(25):
            lengths = []
            while len(lengths) < 320:
                lengths += [source.choice([0, 0, 2, 9, 15])] * source.choice([1, 2, 3, 12, 40, 140])
            size = source.randint(1, 320)
            self.assertEqual(rows_of(lengths[:size]), computed(lengths[:size]))
            self.assertEqual(plain_list(rows_of(lengths[:size])), lengths[:size])

    def test_argument_and_result(self):
        lengths = [5, 5, 5, 5, 0]
        self.assert_new_list(rows_of, lengths)
        self.assertEqual(lengths, [5, 5, 5, 5, 0])
        self.assertEqual({type(row) for row in rows_of(lengths)}, {tuple})


def computed_run(length, most):
    """The rows for runs of each size; the first row of a run cannot repeat."""
    inner = [(0, [], [])]
    first = [[]]
    for size in range(1, most + 1):
        for can_repeat in (False, True):
            choices = []
            for row, portion in rows_at([length] * (size + 1), 1 if can_repeat else 0):
                if portion <= size:
                    many, keys, rows = inner[size - portion]
                    choices.append((many + 1, [(-portion, row[0])] + keys, [row] + rows))
            if can_repeat:
                inner.append(min(choices))
            else:
                first.append(min(choices)[-1])
    return first


class HeadTest(Case):
    def head_as_defined(self, letters, distances):
        letter_count = max([257] + [k + 1 for k in range(286) if letters[k]])
        distance_count = max([1] + [k + 1 for k in range(30) if distances[k]])
        rows = computed(letters[:letter_count] + distances[:distance_count])
        counts = [sum(row[0] == symbol for row in rows) for symbol in range(19)]
        small = shortest(counts, 7)
        if sum(count > 0 for count in counts) == 1:
            small[min(symbol for symbol in range(19) if counts[symbol] == 0)] = 1
        numbers_in_order = [small[symbol] for symbol in NUMBER_ORDER]
        size = max([4] + [k + 1 for k in range(19) if numbers_in_order[k]])
        return letter_count, distance_count, numbers_in_order[:size], rows

    def test_the_smallest_head(self):
        letters = [0] * 256 + [1] + [0] * 29
        distances = [1] + [0] * 29
        rows = [(18, 127), (18, 107), (1, 0), (1, 0)]
        head = (257, 1, [0, 0, 1] + [0] * 14 + [1], rows)
        self.assertEqual(head_of(letters, distances), head)
        self.assertEqual(head_size(head), 14 + 54 + 16 + 2)

    def test_counts_of_letters_and_distances(self):
        for last in (256, 257, 270, 284, 285):
            for far in (0, 1, 2, 28, 29):
                letters = [1] + [0] * 285
                letters[256 if last == 256 else last] = 2
                letters[256] = 2
                if last == 256:
                    letters[1] = 2
                distances = [0] * 30
                distances[far] = 1
                head = head_of(letters, distances)
                self.assertEqual(head[:2], (last + 1, far + 1))
                self.assertEqual(head, self.head_as_defined(letters, distances))
        self.assertEqual(head_of([0] * 256 + [1] + [0] * 29, [0] * 30)[:2], (257, 1))

    def test_only_one_symbol_in_the_rows(self):
        # No list with a code for 256 leads there, but the head is described for it all the same.
        head = (257, 1, [0, 0, 1, 1], [(18, 127), (18, 109)])
        self.assertEqual(self.head_as_defined([0] * 286, [0] * 30), head)
        self.assertEqual(head_of([0] * 286, [0] * 30), head)
        self.assertEqual(head_size(head), 14 + 12 + 2 + 14)

    def test_heads_as_the_point_says(self):
        source = numbers(504)
        for _ in range(60):
            letters = some_code(source, 286, [256])
            distances = source.choice([[1] + [0] * 29, some_code(source, 30, [source.randrange(30)])])
            before = list(letters), list(distances)
            head = head_of(letters, distances)
            self.assertEqual(head, self.head_as_defined(letters, distances))
            self.assertEqual([type(one) for one in head], [int, int, list, list])
            self.assertEqual(head_size(head), len(head_bits(head)))
            self.assertEqual((letters, distances), before)

    def test_all_letters_and_distances(self):
        source = numbers(5041)
        letters = complete_lengths(source, 286)
        distances = complete_lengths(source, 30)
        head = head_of(letters, distances)
        self.assertEqual(head[:2], (286, 30))
        self.assertEqual(plain_list(head[3]), letters + distances)

    def test_a_row_from_the_letters_to_the_distances(self):
        letters = [4] * 15 + [0] * 241 + [4] + [0] * 29
        distances = [4] * 16 + [0] * 14
        head = head_of(letters, distances)
        self.assertEqual(head[3], [(4, 0), (16, 3), (16, 2), (16, 0), (18, 127), (18, 92), (4, 0),
                                   (16, 3), (16, 3), (16, 1)])

    def test_small_numbers_of_at_most_seven_bits(self):
        # Rows of which the symbols occur as often as would ask for longer codes.
        source = numbers(5042)
        letters = [0] * 286
        values = []
        for length, many in zip(range(1, 16), [1, 1, 2, 3, 5, 8, 13, 21, 34, 55, 60]):
            values += [length] * many
        source.shuffle(values)
        letters[:len(values)] = values
        letters[256] = 9
        head = head_of(letters, [1] + [0] * 29)
        self.assertEqual(head, self.head_as_defined(letters, [1] + [0] * 29))
        self.assertEqual(max(head[2]), 7)

    def test_sizes_of_any_head(self):
        for head, size in [((257, 1, [0, 0, 1, 1], []), 14 + 12),
                           ((286, 30, [0, 0, 1, 1], [(18, 5), (0, 0), (18, 0)]), 14 + 12 + 8 + 1 + 8),
                           ((257, 1, [2, 2, 2, 2], [(16, 3), (17, 2), (18, 1), (0, 0)]), 26 + 4 + 5 + 9 + 2),
                           ((257, 1, [1] + [0] * 18, [(16, 3)] * 3), 14 + 57 + 9)]:
            self.assertEqual(head_size(head), size)


if __name__ == "__main__":
    unittest.main()
