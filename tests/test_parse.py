"""Points 306, 307 and 308, and bellows/copies/parse.py."""

import unittest

from bellows.codes.shortest import shortest
from bellows.copies.expand import expand, symbol_counts, token_cost
from bellows.copies.parse import check_parse, parse
from bellows.errors import NoParse, OutOfRange
from checks import Case, numbers, some_bytes

FIXED_LETTERS = [8] * 144 + [9] * 112 + [7] * 24 + [8] * 8
FIXED_DISTANCES = [5] * 32


def tokens_at(data, dictionary, letters, distances, window, index):
    """All tokens that stand for the bytes at an index, as pairs of a token and its cost."""
    history = list(dictionary) + list(data)
    place = len(dictionary) + index
    found = [(data[index],)]
    for distance in range(1, min(window, place) + 1):
        length = 0
        while (length < 258 and place + length < len(history)
               and history[place + length] == history[place + length - distance]):
            length += 1
            if length >= 3:
                found.append((length, distance))
    costs = [token_cost(token, letters, distances) for token in found]
    return [(token, cost) for token, cost in zip(found, costs) if cost is not None]


def size_of(token):
    return 1 if len(token) == 1 else token[0]


def all_parses(data, dictionary, letters, distances, window, index=0):
    """All lists of tokens for the data from an index on, as pairs of a list and its cost."""
    if index == len(data):
        return [([], 0)]
    found = []
    for token, cost in tokens_at(data, dictionary, letters, distances, window, index):
        for rest, sum_of_rest in all_parses(data, dictionary, letters, distances, window,
                                            index + size_of(token)):
            found.append(([token] + rest, cost + sum_of_rest))
    return found


def order(parse_and_cost):
    tokens, cost = parse_and_cost
    choices = [(-1, 0) if len(token) == 1 else (-token[0], token[1]) for token in tokens]
    return cost, len(tokens), choices


def searched(data, dictionary, letters, distances, window):
    """What point 306 and point 307 say, by a plain search of all lists of tokens."""
    ahead = []
    for index in range(len(data) + 1):
        costs = [cost for _, cost in all_parses(data, dictionary, letters, distances, window, index)]
        ahead.append(min(costs, default=None))
    parses = all_parses(data, dictionary, letters, distances, window)
    if not parses:
        return None
    return min(parses, key=order)[0], ahead


def computed(data, dictionary, letters, distances, window):
    """The same for longer data, from the end to the start."""
    best = [None] * len(data) + [(0, 0, [])]
    for index in reversed(range(len(data))):
        for token, cost in tokens_at(data, dictionary, letters, distances, window, index):
            rest = best[index + size_of(token)]
            if rest is not None:
                choice = (-1, 0) if len(token) == 1 else (-token[0], token[1])
                whole = (cost + rest[0], rest[1] + 1, choice, [token] + rest[-1])
                if best[index] is None or whole < best[index]:
                    best[index] = whole
    if best[0] is None:
        return None
    return best[0][-1], [None if one is None else one[0] for one in best]


def farthest(data, dictionary, letters, distances, window):
    reached = {0}
    for index in range(len(data)):
        if index in reached:
            for token, _ in tokens_at(data, dictionary, letters, distances, window, index):
                reached.add(index + size_of(token))
    return max(reached)


def some_code(source, size, without):
    """Code lengths in which small numbers, ties and missing codes are frequent."""
    return [0 if source.random() < without else source.choice([1, 1, 2, 3, 6, 15])
            for _ in range(size)]


def some_data(source, size, values=2):
    """Data with runs and repetitions."""
    data = []
    while len(data) < size:
        if len(data) > 3 and source.random() < 0.4:
            distance = source.randint(1, len(data))
            for _ in range(source.randint(1, 2 * size)):
                data.append(data[-distance])
        else:
            data.append(source.randrange(values))
    return data[:size]


class ParseTest(Case):
    def check_against(self, reference, data, dictionary, letters, distances, window):
        expected = reference(data, dictionary, letters, distances, window)
        if expected is None:
            at = farthest(data, dictionary, letters, distances, window)
            self.assert_error(NoParse, at, parse, data, dictionary, letters, distances, window)
        else:
            self.assertEqual(parse(data, dictionary, letters, distances, window), expected)
            self.assertIs(check_parse(data, dictionary, letters, distances, window, *expected), True)

    def test_a_run(self):
        tokens, ahead = parse([7] * 5, [], FIXED_LETTERS, FIXED_DISTANCES)
        self.assertEqual(tokens, [(7,), (4, 1)])
        self.assertEqual(ahead, [20, 12, 12, 16, 8, 0])

    def test_no_data(self):
        for dictionary in ([], [1, 2, 3]):
            for letters in (FIXED_LETTERS, [0] * 286):
                self.assertEqual(parse([], dictionary, letters, [0] * 30), ([], [0]))
                self.assertIs(check_parse([], dictionary, letters, [0] * 30, 9, [], [0]), True)

    def test_literals_only(self):
        data = list(range(256))
        tokens, ahead = parse(data, [], FIXED_LETTERS, FIXED_DISTANCES)
        self.assertEqual(tokens, [(byte,) for byte in data])
        self.assertEqual(ahead[0], 144 * 8 + 112 * 9)

    def test_copies_into_the_dictionary(self):
        dictionary = [1, 2, 3, 4, 5, 6]
        tokens, ahead = parse([1, 2, 3, 4], dictionary, FIXED_LETTERS, FIXED_DISTANCES)
        self.assertEqual((tokens, ahead), ([(4, 6)], [13, 13, 16, 8, 0]))
        tokens, _ = parse([4, 5, 6, 4, 5], (1, 2, 3, 4, 5, 6), FIXED_LETTERS, FIXED_DISTANCES)
        self.assertEqual(tokens, [(5, 3)])

    def test_all_small_data_against_a_plain_search(self):
        source = numbers(306)
        for size in range(8):
            for number in range(2 ** size):
                data = [number >> k & 1 for k in range(size)]
                letters = some_code(source, 286, 0.1)
                distances = some_code(source, 30, 0.2)
                dictionary = some_data(source, source.randint(0, 4))
                self.check_against(searched, data, dictionary, letters, distances, 32768)

    def test_small_data_in_small_windows_against_a_plain_search(self):
        source = numbers(307)
        for _ in range(150):
            data = some_data(source, source.randint(1, 8))
            dictionary = some_data(source, source.randint(0, 8))
            letters = some_code(source, 286, source.choice([0, 0.1, 0.4]))
            distances = some_code(source, 30, source.choice([0, 0.3]))
            self.check_against(searched, data, dictionary, letters, distances, source.randint(1, 17))

    def test_longer_data(self):
        source = numbers(308)
        for _ in range(60):
            data = some_data(source, source.randint(20, 120), source.randint(1, 4))
            dictionary = some_data(source, source.randint(0, 200), 2)
            letters = some_code(source, 286, source.choice([0, 0.05]))
            distances = some_code(source, 30, source.choice([0, 0.3]))
            window = source.choice([1, 2, 6, 60, 100, 32768])
            self.check_against(computed, data, dictionary, letters, distances, window)

    def test_longer_data_with_the_fixed_code(self):
        source = numbers(309)
        for window in (1, 5, 32768):
            data, dictionary = some_data(source, 200, 3), some_data(source, 100, 3)
            self.check_against(computed, data, dictionary, FIXED_LETTERS, FIXED_DISTANCES, window)

    def test_the_greatest_lengths(self):
        for size in (257, 258, 259, 260, 261, 517):
            data = [9] * size
            self.check_against(computed, data, [9], FIXED_LETTERS, FIXED_DISTANCES, 1)
            letters = [0 if symbol == 285 else 5 for symbol in range(286)]
            self.check_against(computed, data, [9], letters, FIXED_DISTANCES, 1)
            letters = [0 if 257 <= symbol < 285 else 5 for symbol in range(286)]
            self.check_against(computed, data, [9], letters, FIXED_DISTANCES, 1)

    def test_lengths_258_and_257(self):
        letters = [9] * 284 + [1, 15]
        tokens, _ = parse([3] * 258, [3], letters, FIXED_DISTANCES)
        self.assertEqual(tokens, [(258, 1)])
        letters = [4] * 284 + [1, 15]
        tokens, _ = parse([3] * 258, [3], letters, FIXED_DISTANCES)
        self.assertEqual(tokens, [(257, 1), (3,)])
        tokens, ahead = parse([3] * 516, [3], FIXED_LETTERS, FIXED_DISTANCES)
        self.assertEqual((tokens, ahead[0]), ([(258, 1), (258, 1)], 26))

    def test_of_equal_costs_the_fewest_tokens(self):
        letters = [4] * 286
        tokens, _ = parse([1, 1, 1], [1], letters, [8] * 30)
        self.assertEqual(tokens, [(3, 1)])
        tokens, _ = parse([1, 1, 1], [1], letters, [9] * 30)
        self.assertEqual(tokens, [(1,), (1,), (1,)])

    def test_of_as_many_tokens_the_greater_length_first(self):
        letters = [15] * 257 + [4] * 29
        tokens, _ = parse([1] * 8, [1], letters, [1] * 30)
        self.assertEqual(tokens, [(8, 1)])
        letters[262] = 15
        tokens, _ = parse([1] * 8, [1], letters, [1] * 30)
        self.assertEqual(tokens, [(5, 1), (3, 1)])

    def test_of_equal_lengths_the_lesser_distance(self):
        dictionary = [1, 2, 3, 0, 1, 2, 3, 9, 1, 2, 3, 8]
        tokens, _ = parse([1, 2, 3], dictionary, FIXED_LETTERS, [5] * 30)
        self.assertEqual(tokens, [(3, 4)])
        # The distances 8 and 12 have one more extra bit and two more than the distance 4.
        distances = [5] * 3 + [7] + [5] * 26
        self.assertEqual(parse([1, 2, 3], dictionary, FIXED_LETTERS, distances)[0], [(3, 8)])
        distances = [5] * 3 + [6] + [5] * 26
        self.assertEqual(parse([1, 2, 3], dictionary, FIXED_LETTERS, distances)[0], [(3, 4)])
        distances = [5] * 3 + [0, 5, 0, 5] + [5] * 23
        self.assertEqual(parse([1, 2, 3], dictionary, FIXED_LETTERS, distances)[0], [(3, 12)])

    def test_a_cheaper_distance_for_a_shorter_copy(self):
        dictionary = [1, 2, 3, 4, 5] + [0] * 40 + [1, 2, 3]
        distances = [1] * 8 + [15] * 22
        tokens, _ = parse([1, 2, 3, 4, 5], dictionary, [3] * 286, distances)
        self.assertEqual(tokens, [(3, 3), (4,), (5,)])
        tokens, _ = parse([1, 2, 3, 4, 5], dictionary, [15] * 256 + [1] * 30, distances)
        self.assertEqual(tokens, [(5, 48)])

    def test_windows(self):
        dictionary = [1, 2, 3, 0, 0, 0, 0]
        args = ([1, 2, 3], dictionary, FIXED_LETTERS, FIXED_DISTANCES)
        self.assertEqual(parse(*args)[0], [(3, 7)])
        self.assertEqual(parse(*args, window=7)[0], [(3, 7)])
        self.assertEqual(parse(*args, window=6)[0], [(1,), (2,), (3,)])
        self.assertEqual(parse(*args, 1)[0], [(1,), (2,), (3,)])

    def test_far_distances(self):
        for size in (256, 257, 4096, 4097, 8193, 16384, 16385, 32768, 32769):
            dictionary = [1, 2, 3] + [0] * (size - 3)
            tokens, _ = parse([1, 2, 3], dictionary, FIXED_LETTERS, FIXED_DISTANCES)
            near = size <= 16384
            self.assertEqual(tokens, [(3, size)] if near else [(1,), (2,), (3,)])
            letters = [15] * 256 + [1] * 30
            tokens, _ = parse([1, 2, 3], dictionary, letters, FIXED_DISTANCES)
            self.assertEqual(tokens, [(1,), (2,), (3,)] if size > 32768 else [(3, size)])
            tokens, _ = parse([1, 2, 3], dictionary, letters, FIXED_DISTANCES, size - 1)
            self.assertEqual(tokens, [(1,), (2,), (3,)])

    def test_the_dictionary_is_the_last_part_of_a_long_history(self):
        source = numbers(310)
        dictionary = some_bytes(source, 4096)
        data = dictionary[:300] + [1] + dictionary[4000:] + some_bytes(source, 30)
        tokens, ahead = parse(data, dictionary, FIXED_LETTERS, FIXED_DISTANCES)
        self.assertEqual(tokens[0], (258, 4096))
        self.assertEqual(expand(tokens, dictionary), data)
        self.assertEqual(len(ahead), len(data) + 1)

    def test_ordinary_sizes(self):
        source = numbers(311)
        for data, dictionary in (([0] * 4096, [0] * 4096),
                                 (some_bytes(source, 4096), some_bytes(source, 4096)),
                                 (some_data(source, 4096, 5), some_data(source, 4096, 5))):
            letters, distances = FIXED_LETTERS, FIXED_DISTANCES
            for _ in range(2):
                tokens, ahead = parse(data, dictionary, letters, distances)
                self.assertEqual(expand(tokens, dictionary), data)
                costs = [token_cost(token, letters, distances) for token in tokens]
                self.assertEqual(sum(costs), ahead[0])
                passes = check_parse(data, dictionary, letters, distances, 32768, tokens, ahead)
                self.assertIs(passes, True)
                counts = symbol_counts(tokens)
                letters = shortest([count + 1 for count in counts[0]], 15)
                distances = shortest([count + 1 for count in counts[1]], 15)

    def test_lists_of_exactly_286_and_30_lengths(self):
        for letters in (FIXED_LETTERS, FIXED_LETTERS[:286]):
            for distances in (FIXED_DISTANCES, FIXED_DISTANCES[:30]):
                tokens, _ = parse([1] * 300, [], letters, distances)
                self.assertEqual(tokens, [(1,), (258, 1), (41, 1)])

    def test_results_are_new_and_arguments_are_kept(self):
        values = ([1, 1, 1, 1, 2], [1, 1], list(FIXED_LETTERS), list(FIXED_DISTANCES))
        kept = [list(value) for value in values]
        first, second = parse(*values), parse(*values)
        self.assertIs(type(first), tuple)
        self.assertEqual([type(part) for part in first], [list, list])
        self.assertEqual(first, second)
        first[0].clear()
        first[1].append(4)
        self.assertEqual(parse(*values), second)
        check_parse(*values, 32768, *second)
        self.assertEqual(second, parse(*values))
        self.assertEqual([list(value) for value in values], kept)


class NoParseTest(Case):
    def test_a_literal_without_a_code(self):
        letters = [8] * 286
        letters[9] = 0
        for before in range(5):
            data = list(range(before)) + [9, 1, 2]
            self.assert_error(NoParse, before, parse, data, [], letters, [5] * 30)
        tokens, ahead = parse([9, 9, 9, 1], [9], letters, [5] * 30)
        self.assertEqual((tokens, ahead), ([(3, 1), (1,)], [21, None, None, 8, 0]))

    def test_the_greatest_index_may_lie_behind_a_gap(self):
        # Copies of 3 and 5 reach the indexes 3, 5, 6, 8, but no list reaches the 7 in the end.
        letters = [0] * 286
        letters[257] = letters[259] = 1
        self.assertEqual(parse([4] * 8, [4], letters, [1] * 30)[0], [(5, 1), (3, 1)])
        self.assert_error(NoParse, 6, parse, [4] * 7, [4], letters, [1] * 30)
        self.assert_error(NoParse, 3, parse, [4] * 4, [4], letters, [1] * 30)
        self.assert_error(NoParse, 0, parse, [4] * 2, [4], letters, [1] * 30)

    def test_no_codes_at_all(self):
        self.assert_error(NoParse, 0, parse, [1], [], [0] * 286, [0] * 30)
        self.assert_error(NoParse, 0, parse, [1, 1, 1], [1], [0] * 286, [5] * 30)
        self.assert_error(NoParse, 0, parse, [1, 1, 1], [1], [0] * 257 + [1] * 29, [0] * 30)
        self.assert_error(NoParse, 1, parse, [1, 2], [], [0, 1] + [0] * 284, [0] * 30)

    def test_a_window_that_is_too_small(self):
        letters = [0] * 257 + [1] * 29
        self.assertEqual(parse([1, 2, 3], [1, 2, 3], letters, [5] * 30, 3)[0], [(3, 3)])
        self.assert_error(NoParse, 0, parse, [1, 2, 3], [1, 2, 3], letters, [5] * 30, 2)

    def test_the_window_out_of_range(self):
        for window in (0, -1, 32769, 2 ** 40, -32768):
            self.assert_error(OutOfRange, 0, parse, [1], [], FIXED_LETTERS, [5] * 30, window)
            self.assert_error(OutOfRange, 0, parse, [1], [], [0] * 286, [0] * 30, window)
            self.assert_error(OutOfRange, 0, parse, [], [], FIXED_LETTERS, [5] * 30, window)
        for window in (1, 32768):
            self.assert_error(NoParse, 0, parse, [1], [], [0] * 286, [0] * 30, window)


class CheckParseTest(Case):
    DATA = [1, 2, 1, 2, 1, 2, 1, 3]
    DICTIONARY = [3, 1]

    def check(self, tokens, ahead, window=32768, letters=FIXED_LETTERS, distances=FIXED_DISTANCES):
        return check_parse(self.DATA, self.DICTIONARY, letters, distances, window, tokens, ahead)

    def good(self):
        return parse(self.DATA, self.DICTIONARY, FIXED_LETTERS, FIXED_DISTANCES)

    def test_a_good_pair(self):
        tokens, ahead = self.good()
        self.assertEqual(tokens, [(1,), (2,), (5, 2), (3,)])
        self.assertIs(self.check(tokens, ahead), True)

    def test_other_tokens_with_the_least_cost(self):
        letters = [4] * 286
        data = [1] * 3
        ahead = parse(data, [1], letters, [8] * 30)[1]
        for tokens in ([(3, 1)], [(1,), (1,), (1,)]):
            self.assertIs(check_parse(data, [1], letters, [8] * 30, 9, tokens, ahead), True)
        letters = [15] * 257 + [4] * 29
        letters[262] = 15
        ahead = parse([1] * 8, [1], letters, [1] * 30)[1]
        for tokens in ([(5, 1), (3, 1)], [(3, 1), (5, 1)], [(4, 1), (4, 1)]):
            self.assertIs(check_parse([1] * 8, [1], letters, [1] * 30, 9, tokens, ahead), True)

    def test_each_number_of_the_costs_changed(self):
        tokens, ahead = self.good()
        for index in range(len(ahead)):
            for change in (-1, 1, -1000, 1000):
                changed = list(ahead)
                changed[index] += change
                on_path = index in (0, 1, 2, 7, 8)
                too_great = change > 0
                if on_path or too_great:
                    self.assertIs(self.check(tokens, changed), False, (index, change))
            changed = list(ahead)
            changed[index] = None
            self.assertIs(self.check(tokens, changed), False, index)

    def test_lesser_costs_beside_the_tokens_decide_nothing_themselves(self):
        # A number may be too small where no token of a list ends, if no other one relies on it.
        data, letters = [1, 1, 1], [15] + [4] * 285
        tokens, ahead = parse(data, [1], letters, [1] * 30)
        self.assertEqual((tokens, ahead), ([(3, 1)], [5, 8, 4, 0]))
        for second in range(1, 9):
            changed = [5, second, 4, 0]
            passes = check_parse(data, [1], letters, [1] * 30, 9, tokens, changed)
            self.assertIs(passes, True)
        for changed in ([5, 0, 4, 0], [5, 9, 4, 0], [5, 8, 5, 0]):
            self.assertIs(check_parse(data, [1], letters, [1] * 30, 9, tokens, changed), False)

    def test_sizes_and_the_last_element(self):
        tokens, ahead = self.good()
        for changed in ([], [0], ahead[:-1], ahead[1:], ahead + [0], [ahead[0]] + ahead,
                        ahead[:-1] + [None], [number + 1 for number in ahead],
                        [number - 1 for number in ahead], [None] * 9, [None] * 8 + [0]):
            self.assertIs(self.check(tokens, changed), False, changed)

    def test_tokens_that_do_not_expand_to_the_data(self):
        tokens, ahead = self.good()
        for changed in ([], tokens[:-1], tokens[1:], tokens + [(3,)], [(1,), (2,), (5, 2), (4,)],
                        [(1,), (2,), (4, 2), (3,)], [(1,), (2,), (6, 2), (3,)],
                        [(1,), (2,), (5, 1), (3,)], [(2,), (1,), (5, 2), (3,)],
                        tokens + [(258, 1)], [(1,), (2,), (5, 2)]):
            self.assertIs(self.check(changed, ahead), False, changed)

    def test_tokens_that_reach_too_far(self):
        tokens, ahead = self.good()
        for distance in (5, 6, 32768):
            self.assertIs(self.check([(1,), (2,), (5, distance), (3,)], ahead), False)
        # The distances 5 and 6 cost the same.
        args = ([4, 5, 6], [4, 5, 6, 7, 8], FIXED_LETTERS, FIXED_DISTANCES, 32768)
        self.assertIs(check_parse(*args, [(3, 5)], [13, 16, 8, 0]), True)
        self.assertIs(check_parse(*args, [(3, 6)], [13, 16, 8, 0]), False)

    def test_tokens_that_cost_more(self):
        tokens, ahead = self.good()
        for changed in ([(byte,) for byte in self.DATA], [(1,), (2,), (4, 2), (1,), (3,)],
                        [(1,), (2,), (1,), (4, 2), (3,)], [(1,), (2,), (3, 2), (2,), (1,), (3,)]):
            self.assertEqual(expand(changed, self.DICTIONARY), self.DATA)
            self.assertIs(self.check(changed, ahead), False)

    def test_a_worse_parse_with_the_costs_of_its_own_tokens(self):
        literals = [(byte,) for byte in self.DATA]
        self.assertIs(self.check(literals, [8 * (8 - index) for index in range(9)]), False)
        letters = FIXED_LETTERS[:257] + [0] * 31
        own = [8 * (8 - index) for index in range(9)]
        self.assertIs(self.check(literals, own, letters=letters), True)

    def test_a_copy_within_the_dictionary_counts_too(self):
        data, dictionary = [5, 6, 7], [5, 6, 7]
        literals, costs = [(5,), (6,), (7,)], [24, 16, 8, 0]
        args = (data, dictionary, FIXED_LETTERS, FIXED_DISTANCES)
        self.assertIs(check_parse(*args, 3, literals, costs), False)
        self.assertIs(check_parse(*args, 2, literals, costs), True)
        self.assertIs(check_parse(*args, 3, [(3, 3)], [12, 16, 8, 0]), True)
        self.assertIs(check_parse(*args, 2, [(3, 3)], [12, 16, 8, 0]), False)
        self.assertIs(check_parse(*args, 2, [(3, 3)], [24, 16, 8, 0]), False)

    def test_windows(self):
        tokens, ahead = self.good()
        self.assertIs(self.check(tokens, ahead, window=2), True)
        self.assertIs(self.check(tokens, ahead, window=1), False)
        near, own = parse(self.DATA, self.DICTIONARY, FIXED_LETTERS, FIXED_DISTANCES, 1)
        self.assertIs(self.check(near, own, window=1), True)
        self.assertIs(self.check(near, own, window=2), False)

    def test_tokens_without_a_cost(self):
        letters = list(FIXED_LETTERS)
        letters[3] = 0
        tokens, ahead = self.good()
        self.assertIs(self.check(tokens, ahead, letters=letters), False)
        self.assertIs(self.check(tokens, [None] * 8 + [0], letters=letters), False)
        letters = list(FIXED_LETTERS)
        letters[259] = 0
        self.assertIs(self.check(tokens, ahead, letters=letters), False)
        letters[9] = 0
        for before in (8, 16, None):
            for between in (8, None):
                passes = check_parse([1, 9], [], letters, [5] * 30, 9, [(1,), (9,)],
                                     [before, between, 0])
                self.assertIs(passes, False)

    def test_none_among_the_costs(self):
        letters = [8] * 286
        letters[9] = 0
        args = ([9, 9, 9, 1], [9], letters, [5] * 30, 32768)
        tokens = [(3, 1), (1,)]
        self.assertIs(check_parse(*args, tokens, [21, None, None, 8, 0]), True)
        for ahead in ([None, None, None, 8, 0], [21, None, None, None, 0],
                      [None, None, None, None, 0], [None, None, None, 8, None]):
            self.assertIs(check_parse(*args, tokens, ahead), False)
        # No token leads on from the indexes 1 and 2, so the check tests nothing about them, but the
        # literal 1 has a cost: the number before it is needed.
        self.assertIs(check_parse(*args, tokens, [21, 5, 7, 8, 0]), True)

    def test_none_where_a_token_leads_on(self):
        data, letters = [1, 1, 1], [4] * 286
        self.assertIs(check_parse(data, [1], letters, [1] * 30, 9, [(3, 1)], [5, None, 4, 0]), False)
        self.assertIs(check_parse(data, [1], letters, [1] * 30, 9, [(3, 1)], [5, None, None, 0]),
                      False)
        letters[1] = 0
        self.assertIs(check_parse(data, [1], letters, [1] * 30, 9, [(3, 1)], [5, None, None, 0]),
                      True)

    def test_arguments_are_kept(self):
        tokens, ahead = self.good()
        data, dictionary = list(self.DATA), list(self.DICTIONARY)
        kept = [list(value) for value in (data, dictionary, tokens, ahead)]
        check_parse(data, dictionary, FIXED_LETTERS, FIXED_DISTANCES, 9, tokens, ahead)
        self.assertEqual([data, dictionary, tokens, ahead], kept)


if __name__ == "__main__":
    unittest.main()
