"""Points 506 to 508, and bellows/deflate/borders.py."""

import copy
import itertools
import unittest

from bellows.copies.expand import expand
from bellows.deflate.blocks import best_way, block_size
from bellows.deflate.borders import check_division, division_table, least_division
from bellows.errors import OutOfRange
from checks import Case, numbers

DICTIONARY = list(range(100, 140))


def data_between(tokens, first, last):
    """The data of some of the tokens."""
    before = expand(tokens[:first], DICTIONARY)
    return expand(tokens[:last], DICTIONARY)[len(before):]


def all_divisions(places, start=0):
    """All divisions from the border at an index of the places on."""
    if start == len(places):
        return [[]]
    found = []
    for last in range(start, len(places)):
        for way in (0, 1, 2):
            found += [[(places[last], way)] + rest for rest in all_divisions(places, last + 1)]
    return found


class Sizes:
    """The sizes of the blocks of a list of tokens, each computed once."""

    def __init__(self, tokens):
        self.tokens = tokens
        self.known = {}

    def block(self, first, last, way, at):
        key = first, last, way, at % 8
        if key not in self.known:
            data = data_between(self.tokens, first, last)
            self.known[key] = block_size(way, self.tokens[first:last], data, at % 8)
        return self.known[key]

    def division(self, division, at, first=0):
        end = at
        for place, way in division:
            end += self.block(first, place, way, end)
            first = place
        return end - at


def order(sizes, division, at):
    return sizes.division(division, at), len(division), [(-place, way) for place, way in division]


def plain_table(sizes, places):
    table = []
    for index, first in enumerate([0] + places):
        rest = all_divisions(places, index)
        table.append([min(sizes.division(division, residue, first) for division in rest)
                      for residue in range(8)])
    return table


def plain_check(sizes, places, at, division, table):
    """The check of point 508, word by word."""
    borders = [0] + places
    if len(table) != len(borders) or any(len(row) != 8 for row in table) or any(table[-1]):
        return False
    for i, j in itertools.combinations(range(len(borders)), 2):
        for way, residue in itertools.product(range(3), range(8)):
            size = sizes.block(borders[i], borders[j], way, residue)
            if table[i][residue] > size + table[j][(residue + size) % 8]:
                return False
    border = 0
    for place, way in division:
        later = [j for j in range(border + 1, len(borders)) if borders[j] == place]
        if not later or way not in (0, 1, 2):
            return False
        size = sizes.block(borders[border], place, way, at)
        if size != table[border][at % 8] - table[later[0]][(at + size) % 8]:
            return False
        border = later[0]
        at += size
    return border == len(places)


def some_tokens(source):
    """Tokens in stretches that ask for different codes, so that dividing them pays."""
    tokens = []
    made = 40
    for _ in range(source.randint(1, 4)):
        values = source.choice([[1, 2], [200, 201, 202, 203], list(range(256)), [7], list(range(144, 256))])
        for _ in range(source.choice([1, 3, 40, 90, 250])):
            if source.random() < 0.1:
                token = (source.randint(3, 12), source.randint(1, made))
            else:
                token = (source.choice(values),)
            tokens.append(token)
            made += 1 if len(token) == 1 else token[0]
    return tokens


def some_stretches(source):
    """Stretches that are best stored, best fixed, or as good in both ways; places between them."""
    tokens = []
    places = []
    for way in source.choice([[1, 0, 1], [2, 1, 0, 1], [0, 1, 0], [source.randrange(3) for _ in range(4)]]):
        if way == 0:
            tokens += [(144 + 2 * source.randrange(56),) for _ in range(source.randint(30, 60))]
        elif way == 1:
            tokens += [(258, 1)] * source.randint(1, 6)
        else:
            tokens += [(source.randrange(144),) for _ in range(source.randint(1, 10))]
        places.append(len(tokens))
    return tokens, places


def some_places(source, tokens, most):
    if not tokens:
        return [0]
    others = source.sample(range(1, len(tokens)), min(len(tokens) - 1, source.randint(0, most - 1)))
    return sorted(others) + [len(tokens)]


def cases(seed, many, most=4):
    source = numbers(seed)
    for _ in range(many):
        if source.random() < 0.5:
            tokens, places = some_stretches(source)
        else:
            tokens = some_tokens(source)
            places = some_places(source, tokens, most)
        yield tokens, expand(tokens, DICTIONARY), places, source.choice([0, 0, source.randrange(30)])


class DivisionTest(Case):
    def test_is_the_first_of_all_divisions(self):
        ways = set()
        for tokens, data, places, at in cases(506, 120):
            sizes = Sizes(tokens)
            before = copy.deepcopy((tokens, data, places))
            expected = min(all_divisions(places), key=lambda one: order(sizes, one, at))
            found = least_division(tokens, data, places, at)
            self.assertEqual(found, expected)
            self.assertEqual((tokens, data, places), before)
            ways.add(tuple(way for _, way in found))
        # A stored block stands first, between others, and last.
        self.assertGreaterEqual(ways, {(0,), (1,), (2,), (0, 1), (1, 0)})
        self.assertTrue(any(0 in one[1:-1] for one in ways))

    def test_each_tie_is_decided(self):
        """Divisions that are equal in size, in blocks, and in places up to a block, are met."""
        ties = set()
        source = numbers(507)
        # Literals of eight bits, which belong to a stored block as well as to a fixed one.
        tokens = [(144 + 2 * k,) for k in range(50)] + [(1,)] * 3 + [(258, 1)] * 2
        division = least_division(tokens, expand(tokens), [50, 51, 53, 55], 0)
        self.assertEqual(division, [(53, 0), (55, 1)])
        # A stored block of 40 bytes takes 360 bits at position 0, as many as they take in a fixed one.
        tokens = [(144 + 2 * k,) for k in range(40)] + [(258, 1)] * 2
        data = expand(tokens)
        found = [least_division(tokens, data, [40, 42], at) for at in (0, 1, 7)]
        self.assertEqual(found, [[(42, 1)], [(40, 0), (42, 1)], [(42, 1)]])
        for _ in range(700):
            # Bytes of nine bits in a fixed block make up for what a stored one has before them.
            many = source.randint(1, 80)
            tokens = [(source.choice([150, 151, source.randint(144, 255)]),) for _ in range(many)]
            if source.random() < 0.5:
                tokens = [(1,)] * source.randint(1, 4) + tokens + [(1,)] * source.randint(0, 4)
            if source.random() < 0.3:
                tokens = tokens + [(258, 1)] * 4
            places = some_places(source, tokens, 3)
            if source.random() < 0.15:
                same = source.randint(1, 6)
                tokens = [(144 + 2 * k,) for k in range(50)] + [(1,)] * same + [(258, 1)] * 4
                places = sorted(source.sample(range(50, 51 + same), 2)) + [len(tokens)]
            at = source.randrange(8)
            data = expand(tokens, DICTIONARY)
            sizes = Sizes(tokens)
            ranked = sorted((order(sizes, one, at), one) for one in all_divisions(places))
            self.assertEqual(least_division(tokens, data, places, at), ranked[0][1])
            best, second = ranked[0][0], ranked[1][0]
            if best[0] == second[0]:
                if best[1] != second[1]:
                    ties.add("blocks")
                else:
                    first, other = next((a, b) for a, b in zip(best[2], second[2]) if a != b)
                    ties.add("place" if first[0] != other[0] else "way")
        self.assertEqual(ties, {"place", "way"})

    def test_fewer_blocks_come_before_a_greater_place(self):
        # As many bits are taken by three blocks, of which the first one ends later.
        tokens = [(144 + 37 * k % 112,) for k in range(42)] + [(17 * k,) for k in range(8)] + [(258, 1)]
        tokens += [(144 + 41 * k % 112,) for k in range(51)] + [(258, 1)] * 5
        places = [42, 50, 51, 102, 107]
        sizes = Sizes(tokens)
        for at in range(8):
            expected = [(107, 1)] if at == 6 else [(50, 0), (107, 1)]
            self.assertEqual(least_division(tokens, expand(tokens), places, at), expected)
            self.assertEqual(min(all_divisions(places), key=lambda one: order(sizes, one, at)), expected)
        three = [(51, 1), (102, 0), (107, 1)]
        self.assertEqual(sizes.division(three, 0), sizes.division([(50, 0), (107, 1)], 0))

    def test_no_tokens(self):
        for at in range(9):
            self.assertEqual(least_division([], [], [0], at), [(0, 1)])
            self.assertEqual(division_table([], [], [0], at), [[10] * 8, [0] * 8])
            self.assertIs(check_division([], [], [0], at, [(0, 1)], [[10] * 8, [0] * 8]), True)
            for division in ([], [(0, 0)], [(0, 2)], [(0, 1), (0, 1)], [(1, 1)], [(0, 3)]):
                self.assertIs(check_division([], [], [0], at, division, [[10] * 8, [0] * 8]), False)

    def test_one_block(self):
        for tokens, data, _, at in cases(5061, 20):
            way, size = best_way(tokens, data, at)
            self.assertEqual(least_division(tokens, data, [len(tokens)], at), [(len(tokens), way)])
            self.assertEqual(division_table(tokens, data, [len(tokens)], at)[0][at % 8], size)

    def test_dividing_pays(self):
        # Noise, of which no code makes less, beside one value.
        source = numbers(5062)
        noise = [source.randrange(256) for _ in range(300)]
        tokens = [(byte,) for byte in noise] + [(5,)] * 600
        data = noise + [5] * 600
        division = least_division(tokens, data, [100, 200, 300, 400, 900], 0)
        self.assertEqual(division, [(300, 0), (900, 2)])
        self.assertEqual(least_division(tokens, data, [299, 301, 900], 0)[0][1], 0)

    def test_the_position_counts(self):
        # A stored block takes from 0 to 7 fill bits, which decides between it and a fixed one.
        ways = set()
        tokens = [(144 + k,) for k in range(28)]
        data = [token[0] for token in tokens]
        for at in range(16):
            division = least_division(tokens, data, [28], at)
            self.assertEqual(division, least_division(tokens, data, [28], at % 8))
            ways.add(division[0][1])
        self.assertEqual(ways, {0, 1})

    def test_new_lists(self):
        tokens, data = [(1,), (2,)], [1, 2]
        self.assert_new_list(least_division, tokens, data, [1, 2], 0)
        table = division_table(tokens, data, [1, 2], 0)
        table[0][0] = -1
        table[2].append(4)
        self.assertEqual(division_table(tokens, data, [1, 2], 0)[2], [0] * 8)
        self.assertIsNot(division_table(tokens, data, [1, 2], 0), table)


class TableTest(Case):
    def test_is_that_of_the_point(self):
        for tokens, data, places, at in cases(508, 30):
            found = division_table(tokens, data, places, at)
            self.assertEqual(found, plain_table(Sizes(tokens), places))
            self.assertEqual(found, division_table(tokens, data, places, at + 3))
            division = least_division(tokens, data, places, at)
            self.assertEqual(found[0][at % 8], Sizes(tokens).division(division, at))

    def test_its_form(self):
        table = division_table([(1,), (2,), (3,)], [1, 2, 3], [1, 2, 3], 5)
        self.assertEqual([len(row) for row in table], [8] * 4)
        self.assertEqual(table[3], [0] * 8)
        self.assertEqual(table[2], [18] * 8)


class PlacesTest(Case):
    def test_wrong_places(self):
        tokens = [(1,), (2,), (3,), (4,)]
        data = [1, 2, 3, 4]
        for places, index in [([0, 4], 0), ([-1, 4], 0), ([1, 1, 4], 1), ([2, 1, 4], 1), ([1, 3, 3, 4], 2),
                              ([1, 3, 2], 2), ([4, 4], 1), ([], 0), ([1], 1), ([3], 1), ([5], 1),
                              ([1, 2], 2), ([1, 5], 2), ([0], 0), ([5, 4], 1), ([1, 2, 2, 9], 2)]:
            self.assert_error(OutOfRange, index, least_division, tokens, data, places, 0)
            self.assert_error(OutOfRange, index, division_table, tokens, data, places, 0)

    def test_right_places(self):
        tokens = [(1,), (2,), (3,), (4,)]
        for places in ([4], [1, 4], [1, 2, 3, 4]):
            self.assertEqual(least_division(tokens, [1, 2, 3, 4], places, 0), [(4, 1)])


class CheckTest(Case):
    def test_what_was_computed_passes(self):
        for tokens, data, places, at in cases(5081, 40, 6):
            division = least_division(tokens, data, places, at)
            table = division_table(tokens, data, places, at)
            before = copy.deepcopy((tokens, data, places, division, table))
            self.assertIs(check_division(tokens, data, places, at, division, table), True)
            self.assertEqual((tokens, data, places, division, table), before)

    def test_forms_that_are_wrong(self):
        tokens, data, places = [(1,), (2,), (3,)], [1, 2, 3], [1, 3]
        division = least_division(tokens, data, places, 0)
        table = division_table(tokens, data, places, 0)
        for wrong in ([], table[:-1], table[1:], table + [[0] * 8], [table[0][:-1]] + table[1:],
                      [table[0] + [0]] + table[1:], table[:2] + [[0] * 7], table[:2] + [[0] * 9],
                      table[:2] + [[0] * 7 + [1]], table[:2] + [[1] + [0] * 7], table[:2] + [[]],
                      [[one + 1 for one in row] for row in table]):
            self.assertIs(check_division(tokens, data, places, 0, division, wrong), False)
            self.assertIs(check_division(tokens, data, places, 0, division, table), True)

    def test_each_element(self):
        for tokens, data, places, at in cases(5082, 4, 3):
            division = least_division(tokens, data, places, at)
            table = division_table(tokens, data, places, at)
            sizes = Sizes(tokens)
            for row in range(len(table)):
                for residue in range(8):
                    for change in (-1, 1, -100, 100):
                        wrong = copy.deepcopy(table)
                        wrong[row][residue] += change
                        found = check_division(tokens, data, places, at, division, wrong)
                        self.assertIs(found, plain_check(sizes, places, at, division, wrong))
                        if change > 0:
                            self.assertIs(found, False)

    def test_divisions_that_are_wrong(self):
        seen = {True: 0, False: 0}
        source = numbers(5083)
        for tokens, data, places, at in cases(5084, 30):
            table = division_table(tokens, data, places, at)
            division = least_division(tokens, data, places, at)
            tried = all_divisions(places)
            sizes = Sizes(tokens)
            wrong = [[], division[:-1], division + division[-1:], [(0, 1)] + division, division[1:],
                     division + [(places[-1] + 1, 1)], [(place, way + 3) for place, way in division],
                     [(place, way - 3) for place, way in division], list(reversed(division)),
                     [(place - 1, way) for place, way in division]]
            for one in source.sample(tried, min(len(tried), 20)) + wrong:
                found = check_division(tokens, data, places, at, one, table)
                self.assertIs(found, plain_check(sizes, places, at, one, table))
                seen[found] += 1
        self.assertGreater(min(seen.values()), 3)

    def test_the_position_counts_for_each_block(self):
        # Where the last block begins decides whether it is stored or not.
        for first, copies, last in ((38, 2, 36), (42, 2, 36), (49, 3, 35)):
            tokens = [(144 + 37 * k % 112,) for k in range(first)] + [(258, 1)] * copies
            tokens += [(144 + 41 * k % 112,) for k in range(last)]
            data = expand(tokens)
            places = [first, first + copies, first + copies + last]
            sizes = Sizes(tokens)
            for at in range(8):
                table = division_table(tokens, data, places, at)
                best = min(all_divisions(places), key=lambda one: order(sizes, one, at))
                self.assertEqual(least_division(tokens, data, places, at), best)
                for division in all_divisions(places):
                    least = sizes.division(division, at) == sizes.division(best, at)
                    self.assertIs(check_division(tokens, data, places, at, division, table), least)

    def test_a_division_of_equal_size_passes_too(self):
        # The check proves the least size, and not which of several divisions it is.
        tokens = [(144 + k,) for k in range(28)]
        data = [token[0] for token in tokens]
        found = []
        for at in range(8):
            table = division_table(tokens, data, [28], at)
            found.append([way for way in (0, 1, 2)
                          if check_division(tokens, data, [28], at, [(28, way)], table)])
        self.assertEqual(found, [[1], [1], [0, 1], [0], [0], [0], [1], [1]])

    def test_the_position_counts(self):
        tokens = [(144 + k,) for k in range(28)]
        data = [token[0] for token in tokens]
        sizes = Sizes(tokens)
        for at in range(16):
            table = division_table(tokens, data, [28], at)
            division = least_division(tokens, data, [28], at)
            for other in range(16):
                self.assertIs(check_division(tokens, data, [28], other, division, table),
                              plain_check(sizes, [28], other, division, table))


if __name__ == "__main__":
    unittest.main()
