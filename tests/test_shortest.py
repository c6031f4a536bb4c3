"""Points 204 to 208, and bellows/codes/shortest.py."""

import itertools
import unittest

from bellows.codes.canon import is_complete, is_oversubscribed, weight
from bellows.codes.shortest import certificate, check_lengths, cost, shortest
from bellows.errors import OutOfRange, TooNarrow
from checks import Case, numbers

GREATEST = 2 ** 32 - 1
COUNTS = [5, 1, 1, 0, 2]
ROWS = [
    [(1, 1), (1, 2), (2, 4), (2, -1), (4, -1), (5, 0), (12, -1)],
    [(1, 1), (1, 2), (2, 4), (2, -1), (5, 0), (7, -1)],
    [(1, 1), (1, 2), (2, 4), (5, 0)],
]


def rows_as_defined(counts, most):
    """The rows of point 205, with each item's place in the order of equal values written out."""
    symbols = [(count, 0, symbol, symbol) for symbol, count in enumerate(counts) if count]
    row = sorted(symbols)
    rows = [row]
    for _ in range(most - 1):
        pairs = []
        while 2 * len(pairs) + 1 < len(row):
            first, second = row[2 * len(pairs)], row[2 * len(pairs) + 1]
            pairs.append((first[0] + second[0], 1, len(pairs), -1))
        row = sorted(symbols + pairs)
        rows.insert(0, row)
    return [[(item[0], item[3]) for item in row] for row in rows]


def lengths_as_defined(counts, most):
    many = sum(count > 0 for count in counts)
    if many < 2:
        return [int(count > 0) for count in counts]
    lengths = [0] * len(counts)
    taken = 2 * many - 2
    for row in rows_as_defined(counts, most):
        for _, symbol in row[:taken]:
            if symbol >= 0:
                lengths[symbol] += 1
        taken = 2 * sum(symbol == -1 for _, symbol in row[:taken])
    return lengths


def all_lengths_that_serve(counts, most):
    choices = [range(1, most + 1) if count else (0,) for count in counts]
    return [list(lengths) for lengths in itertools.product(*choices)
            if not is_oversubscribed(list(lengths))]


def many_counts():
    """Counts of all sorts with a limit each, in which ties are frequent."""
    source = numbers(205)
    found = [([1] * 320, 9), ([1] * 320, 15), ([GREATEST] * 320, 15), ([GREATEST] * 4, 2),
             (list(range(320)), 9), ([2 ** k for k in range(32)], 15), ([1, 1], 1),
             ([1, 1, 2, 3, 5, 8, 13, 21, 34, 55, 89, 144, 233, 377, 610, 987, 1597, 2584], 15),
             ([0, 3, 0, 3, 0], 1), ([1, 1, 2, 2, 4, 4], 5), ([2, 1, 1], 2), ([3, 1, 1, 1], 3)]
    for _ in range(150):
        size = source.randint(2, 40)
        greatest = source.choice([1, 2, 4, 20, 1000, GREATEST])
        counts = [source.randint(0, greatest) for _ in range(size)]
        least = next(most for most in range(1, 16) if sum(c > 0 for c in counts) <= 2 ** most)
        found.append((counts, source.randint(least, 15)))
        found.append((counts, least))
    return found


class ShortestTest(Case):
    def test_the_examples_of_the_interface(self):
        self.assertEqual(shortest([5, 1, 1, 0, 2], 3), [1, 3, 3, 0, 2])
        self.assertEqual(shortest([5, 1, 1, 2], 2), [2, 2, 2, 2])

    def test_no_count_above_0(self):
        for most in (1, 7, 15):
            for size in (0, 1, 5, 320):
                self.assertEqual(shortest([0] * size, most), [0] * size)

    def test_one_count_above_0(self):
        for most in (1, 7, 15):
            for count in (1, 2, GREATEST):
                self.assertEqual(shortest([count], most), [1])
                self.assertEqual(shortest([0, 0, count, 0], most), [0, 0, 1, 0])

    def test_two_counts_above_0(self):
        for most in (1, 2, 15):
            self.assertEqual(shortest([9, 0, 1], most), [1, 0, 1])

    def test_ties(self):
        self.assertEqual(shortest([1, 1, 1], 2), [2, 2, 1])
        self.assertEqual(shortest([1, 1, 1], 15), [2, 2, 1])
        self.assertEqual(shortest([1, 1, 1, 1, 1], 3), [3, 3, 2, 2, 2])
        self.assertEqual(shortest([2, 1, 1], 5), [1, 2, 2])
        # The pair of the two ones has the value 2, like two symbols, which stand before it.
        self.assertEqual(shortest([1, 1, 2, 2], 5), [2, 2, 2, 2])

    def test_a_limit_that_matters(self):
        fibonacci = [1, 1, 2, 3, 5, 8, 13, 21]
        self.assertEqual(shortest(fibonacci, 7), [7, 7, 6, 5, 4, 3, 2, 1])
        self.assertEqual(shortest(fibonacci, 15), [7, 7, 6, 5, 4, 3, 2, 1])
        self.assertEqual(shortest(fibonacci, 3), [3] * 8)
        self.assertEqual(max(shortest(fibonacci, 5)), 5)

    def test_against_the_definition(self):
        for counts, most in many_counts():
            self.assertEqual(shortest(counts, most), lengths_as_defined(counts, most))

    def test_no_other_lengths_cost_less(self):
        for greatest in (3, 9):
            for counts in itertools.product(range(0, greatest + 1, greatest // 3), repeat=4):
                for most in (2, 3):
                    found = shortest(list(counts), most)
                    serving = all_lengths_that_serve(counts, most)
                    self.assertIn(found, serving)
                    least = min(cost(lengths, counts) for lengths in serving)
                    if sum(count > 0 for count in counts) > 1:
                        self.assertEqual(cost(found, counts), least)

    def test_no_other_lengths_cost_less_for_six_symbols(self):
        source = numbers(206)
        for most in (3, 4):
            for _ in range(8):
                counts = [source.choice([1, 1, 2, 3, 7, 20, 90]) for _ in range(6)]
                serving = all_lengths_that_serve(counts, most)
                least = min(cost(lengths, counts) for lengths in serving)
                self.assertEqual(cost(shortest(counts, most), counts), least)

    def test_what_follows_from_the_definition(self):
        for counts, most in many_counts():
            lengths = shortest(counts, most)
            self.assertEqual([length > 0 for length in lengths], [count > 0 for count in counts])
            self.assertLessEqual(max(lengths), most)
            if sum(count > 0 for count in counts) > 1:
                self.assertTrue(is_complete(lengths))
            for (count, length), (other, longer) in itertools.combinations(zip(counts, lengths), 2):
                self.assertFalse(count > other > 0 and length > longer)
                self.assertFalse(other > count > 0 and longer > length)
            if most < 15:
                self.assertLessEqual(cost(shortest(counts, most + 1), counts), cost(lengths, counts))

    def test_as_many_counts_as_codes_and_one_more(self):
        for most in range(1, 9):
            for count in (1, 1000):
                self.assertEqual(shortest([count] * 2 ** most, most), [most] * 2 ** most)
                wide = [count] * 2 ** most + [0, count]
                self.assert_error(TooNarrow, 2 ** most + 1, shortest, wide, most)
                self.assert_error(TooNarrow, 2 ** most + 1, certificate, wide, most)
        uneven = list(range(1, 9))
        self.assertEqual(shortest(uneven, 3), [3] * 8)
        self.assert_error(TooNarrow, 320, shortest, [1] * 320, 8)
        self.assert_error(TooNarrow, 320, shortest, [1] * 320, 1)

    def test_results_are_new_and_counts_are_kept(self):
        counts = list(COUNTS)
        for values in (counts, [0, 0], [0, 7], []):
            self.assert_new_list(shortest, values, 3)
        self.assertEqual(counts, COUNTS)


class CostTest(Case):
    def test_sums_of_products(self):
        self.assertEqual(cost([], []), 0)
        self.assertEqual(cost([3], [7]), 21)
        self.assertEqual(cost([1, 3, 3, 0, 2], COUNTS), 5 + 3 + 3 + 0 + 4)
        self.assertEqual(cost([15] * 320, [GREATEST] * 320), 15 * 320 * GREATEST)

    def test_the_lists_are_kept(self):
        lengths, counts = [1, 3, 3, 0, 2], list(COUNTS)
        cost(lengths, counts)
        self.assertEqual((lengths, counts), ([1, 3, 3, 0, 2], COUNTS))


class CertificateTest(Case):
    def test_the_rows_of_a_small_input(self):
        self.assertEqual(certificate(COUNTS, 3), ROWS)
        self.assertEqual(certificate([1, 1], 1), [[(1, 0), (1, 1)]])
        self.assertEqual(certificate([4, 0, 3, 9], 2), [
            [(3, 2), (4, 0), (7, -1), (9, 3)],
            [(3, 2), (4, 0), (9, 3)],
        ])

    def test_the_order_of_equal_values(self):
        self.assertEqual(certificate([2, 1, 2, 1, 2], 3), [
            [(1, 1), (1, 3), (2, 0), (2, 2), (2, 4), (2, -1), (4, -1), (4, -1)],
            [(1, 1), (1, 3), (2, 0), (2, 2), (2, 4), (2, -1), (4, -1)],
            [(1, 1), (1, 3), (2, 0), (2, 2), (2, 4)],
        ])

    def test_no_rows_for_at_most_one_count(self):
        for counts in ([], [0], [0] * 320, [7], [0, GREATEST, 0]):
            for most in (1, 15):
                self.assertEqual(certificate(counts, most), [])

    def test_against_the_definition(self):
        for counts, most in many_counts():
            if sum(count > 0 for count in counts) > 1:
                rows = certificate(counts, most)
                self.assertEqual(rows, rows_as_defined(counts, most))
                self.assertEqual(len(rows), most)

    def test_the_cost_is_the_sum_of_the_values_taken_in_row_0(self):
        for counts, most in many_counts():
            many = sum(count > 0 for count in counts)
            if many > 1:
                values = [value for value, _ in certificate(counts, most)[0]]
                lengths = shortest(counts, most)
                self.assertEqual(cost(lengths, counts), sum(values[:2 * many - 2]))

    def test_results_are_new_and_counts_are_kept(self):
        counts = list(COUNTS)
        self.assert_new_list(certificate, counts, 3)
        self.assert_new_list(certificate, [0, 1], 3)
        certificate(counts, 3)[1].append((0, 0))
        self.assertEqual(certificate(counts, 3), ROWS)
        self.assertIs(type(certificate(counts, 3)[0]), list)
        self.assertIs(type(certificate(counts, 3)[0][0]), tuple)
        self.assertEqual(counts, COUNTS)


class CheckLengthsTest(Case):
    def spoilt_rows(self, rows):
        for index, row in enumerate(rows):
            yield rows[:index] + rows[index + 1:]
            yield rows[:index] + [row] + rows[index:]
            for place, (value, symbol) in enumerate(row):
                changed = [row[:place] + row[place + 1:], row[:place] + [row[place]] + row[place:]]
                for item in ((value + 1, symbol), (value - 1, symbol), (value, symbol + 1),
                             (value, -1), (value, symbol - 1), (value, 0)):
                    changed.append(row[:place] + [item] + row[place + 1:])
                if place:
                    changed.append(row[:place - 1] + [row[place], row[place - 1]] + row[place + 1:])
                for other in changed:
                    if other != row:
                        yield rows[:index] + [other] + rows[index + 1:]
            yield rows[:index] + [row + [(10 ** 6, -1)]] + rows[index + 1:]
            yield rows[:index] + [[]] + rows[index + 1:]
        yield rows + [[]]
        yield [[]] + rows
        if len(rows) > 1:
            yield rows[::-1]
        yield []

    def test_what_the_program_returns_passes(self):
        for counts, most in many_counts() + [([], 1), ([0, 0], 4), ([0, 8], 15)]:
            lengths, rows = shortest(counts, most), certificate(counts, most)
            self.assertIs(check_lengths(counts, most, lengths, rows), True)

    def test_other_lengths_with_the_least_cost_pass(self):
        rows = certificate([1, 1, 1], 2)
        for lengths in ([2, 2, 1], [2, 1, 2], [1, 2, 2]):
            self.assertIs(check_lengths([1, 1, 1], 2, lengths, rows), True)

    def test_exactly_the_lengths_with_the_least_cost_pass(self):
        for counts, most in ((COUNTS, 3), ([1, 1, 2, 2], 3), ([3, 3, 0, 1], 2), ([2, 2], 3)):
            rows = certificate(counts, most)
            least = cost(shortest(counts, most), counts)
            for lengths in itertools.product(range(most + 2), repeat=len(counts)):
                serves = list(lengths) in all_lengths_that_serve(counts, most)
                passes = serves and cost(lengths, counts) == least
                self.assertIs(check_lengths(counts, most, list(lengths), rows), passes)

    def test_spoilt_rows(self):
        for counts, most in ((COUNTS, 3), ([1, 1], 1), ([2, 1, 2, 1, 2], 3)):
            rows, lengths = certificate(counts, most), shortest(counts, most)
            for spoilt in self.spoilt_rows(rows):
                self.assertIs(check_lengths(counts, most, lengths, spoilt), False, spoilt)

    def test_rows_of_other_limits_and_counts(self):
        lengths = shortest(COUNTS, 3)
        self.assertIs(check_lengths(COUNTS, 4, lengths, ROWS), False)
        self.assertIs(check_lengths(COUNTS, 2, lengths, ROWS), False)
        self.assertIs(check_lengths([5, 1, 1, 0, 3], 3, lengths, ROWS), False)
        self.assertIs(check_lengths([5, 1, 1, 2], 3, [1, 3, 3, 2], ROWS), False)

    def test_spoilt_lengths(self):
        for lengths in ([], [1, 3, 3, 0], [1, 3, 3, 0, 2, 0], [1, 3, 3, 1, 2], [1, 3, 3, 0, 0],
                        [1, 3, 3, 0, 3], [2, 3, 3, 0, 1], [1, 3, 3, 0, 1], [1, 2, 3, 0, 2],
                        [1, 3, 3, -1, 2], [-1, 3, 3, 0, 2], [1, 4, 4, 0, 2], [1, 3, 3, 0, 16],
                        [1, 3, 3, 0, 10 ** 9], [0, 0, 0, 0, 0], [2, 2, 2, 0, 2]):
            self.assertIs(check_lengths(COUNTS, 3, lengths, ROWS), False, lengths)

    def test_lengths_above_the_limit(self):
        # Cheaper than all lengths within the limit, and as cheap as these.
        counts = [100, 10, 1, 1]
        rows = certificate(counts, 2)
        self.assertIs(check_lengths(counts, 2, [2, 2, 2, 2], rows), True)
        self.assertIs(check_lengths(counts, 2, [1, 2, 3, 3], rows), False)
        rows = certificate([1, 1, 1, 1, 1, 1], 3)
        self.assertIs(check_lengths([1] * 6, 3, [3, 3, 3, 3, 2, 2], rows), True)
        self.assertIs(check_lengths([1] * 6, 3, [4, 4, 3, 2, 2, 1], rows), False)

    def test_oversubscribed_lengths(self):
        counts = [4, 1, 1]
        rows = certificate(counts, 3)
        self.assertEqual(cost([1, 2, 2], counts), 8)
        self.assertEqual(weight([1, 1, 3]), 36864)
        self.assertIs(check_lengths(counts, 3, [1, 2, 2], rows), True)
        self.assertIs(check_lengths(counts, 3, [1, 1, 3], rows), False)

    def test_at_most_one_count_above_0(self):
        for counts, lengths in (([], []), ([0, 0], [0, 0]), ([0, 9], [0, 1])):
            self.assertIs(check_lengths(counts, 2, lengths, []), True)
            self.assertIs(check_lengths(counts, 2, lengths, [[]]), False)
            self.assertIs(check_lengths(counts, 2, lengths, [[], []]), False)
            self.assertIs(check_lengths(counts, 2, lengths + [0], []), False)
            self.assertIs(check_lengths(counts, 2, lengths, [[(9, 1)], [(9, 1)]]), False)
        for lengths in ([0, 0], [0, 2], [1, 1], [1, 0], [0], [0, -1]):
            self.assertIs(check_lengths([0, 9], 2, lengths, []), False)
        self.assertIs(check_lengths([0, 0], 2, [0, 1], []), False)

    def test_limits_that_are_too_narrow(self):
        for most, many in ((1, 3), (2, 5), (8, 320)):
            rows = rows_as_defined([1] * many, most)
            for lengths in ([most] * many, [9] * many, []):
                self.assertIs(check_lengths([1] * many, most, lengths, rows), False)
                self.assertIs(check_lengths([1] * many, most, lengths, []), False)

    def test_arguments_are_kept(self):
        counts, lengths = list(COUNTS), [1, 3, 3, 0, 2]
        rows = [list(row) for row in ROWS]
        check_lengths(counts, 3, lengths, rows)
        self.assertEqual((counts, lengths, rows), (COUNTS, [1, 3, 3, 0, 2], ROWS))


class WrongCountsTest(Case):
    def calls(self):
        return ((shortest, ()), (certificate, ()), (check_lengths, ([], [])))

    def test_limits_out_of_range(self):
        for function, rest in self.calls():
            for most in (0, 16, -1, 10 ** 9):
                for counts in ([], [1], [1, 2, 3], [-1], [1] * 320):
                    self.assert_error(OutOfRange, -1, function, counts, most, *rest)

    def test_counts_out_of_range(self):
        for function, rest in self.calls():
            for wrong in (-1, 2 ** 32, 2 ** 70, -2 ** 32):
                self.assert_error(OutOfRange, 0, function, [wrong], 15, *rest)
                self.assert_error(OutOfRange, 2, function, [1, 0, wrong, 5], 2, *rest)
                self.assert_error(OutOfRange, 1, function, [1, wrong, 3, -1, 2 ** 32], 3, *rest)
                self.assert_error(OutOfRange, 319, function, [0] * 319 + [wrong], 1, *rest)

    def test_counts_at_their_bounds(self):
        self.assertEqual(shortest([0, GREATEST, 1], 1), [0, 1, 1])
        self.assertEqual(certificate([GREATEST, GREATEST], 1), [[(GREATEST, 0), (GREATEST, 1)]])

    def test_the_order_of_the_errors(self):
        for function, rest in self.calls():
            self.assert_error(OutOfRange, -1, function, [1, -1, 1, 1], 0, *rest)
            self.assert_error(OutOfRange, 5, function, [1, 1, 1, 1, 1, -1], 1, *rest)
        self.assert_error(TooNarrow, 5, shortest, [1, 1, 1, 1, 1], 1)
        self.assert_error(TooNarrow, 5, certificate, [1, 1, 1, 1, 1], 1)


if __name__ == "__main__":
    unittest.main()
