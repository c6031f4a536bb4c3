"""Points 701 and 711 to 714, and bellows/ways/recipe.py."""

import unittest
import zlib

from bellows.base.bits import BitWriter
from bellows.deflate.blocks import block_size, write_block
from bellows.errors import BadKind, BellowsError, Extra, TooFar, TooMuch, Truncated, WrongRecipe
from bellows.inflate.grammar import block_tokens, read_blocks
from bellows.ways.recipe import guess, rebuild, recipe, squeeze
from checks import Case, numbers, some_bytes
from streams import bytes_of, placed, plain_blocks, plain_token
from texts import deflated
from whole import (
    bits_of, fixed_block, inflated, parts_of, plain_outs, put_placed, shifted, some_whole, stored_block,
    token_size, whole_of,
)


def plain_guess(data, index):
    best = (0, 0)
    for distance in range(1, min(index, 32768) + 1):
        length = 0
        while (length < 258 and index + length < len(data)
               and data[index + length] == data[index + length - distance]):
            length += 1
        if length > best[0]:
            best = length, distance
    return best if best[0] >= 3 else 0


def plain_recipe(stream):
    """Point 712, with a plain search for each guess."""
    blocks, end = plain_blocks(stream)
    data = inflated(stream)
    found = []
    at = 0
    for kind, is_last, _, _, _, content, head in blocks:
        found.append(is_last + 2 * kind)
        if kind == 0:
            found += [sum(bit * 2 ** k for k, bit in enumerate(head)), len(content)]
            at += len(content)
            continue
        if kind == 2:
            found += [head[0], head[1], len(head[2])] + head[2] + [len(head[3])]
            found += [number for row in head[3] for number in row]
        found.append(len(content))
        left = list(content)
        while left:
            count = 0
            while left and agrees(left[0], plain_guess(data, at)):
                at += token_size(plain_token(left.pop(0)))
                count += 1
            found.append(count)
            if left:
                item = left.pop(0)
                token = plain_token(item)
                if len(token) == 1:
                    found.append(0)
                elif token[0] == 258 and item[0] == 284:
                    found += [1, token[1]]
                else:
                    found += token
                at += token_size(token)
    rest = bits_of(stream)[end:]
    return found + [int(rest[::-1] or "0", 2)]


def agrees(item, guessed):
    if len(item) == 1:
        return guessed == 0
    return plain_token(item) == guessed and item[:2] != (284, 31)


def repetitive(source, size):
    """Data with many copies of all lengths."""
    data = some_bytes(source, 3, 3)
    while len(data) < size:
        if source.random() < 0.5:
            data += some_bytes(source, source.randint(1, 4), 3)
        else:
            start = source.randrange(len(data))
            data += data[start:start + source.choice([3, 4, 10, 300])]
    return data[:size]


def longest_copies(source, symbol):
    """A stream of copies of length 258, which are stored with a symbol."""
    extra = 0 if symbol == 285 else 31
    items = [(7,)] + [(symbol, extra, source.randrange(2), 0) for _ in range(4)]
    return whole_of(source, [fixed_block([(7,), (7,)]), fixed_block(items, 1)])


def streams_of_all_kinds(source):
    found = [some_whole(source, 0, 3) for _ in range(60)]
    for data in (repetitive(source, 300), [7] * 700, some_bytes(source, 60), [], [1] * 261):
        for level in (0, 1, 6, 9):
            found.append(deflated(data, level))
        for strategy in (zlib.Z_HUFFMAN_ONLY, zlib.Z_RLE, zlib.Z_FIXED):
            writer = zlib.compressobj(9, zlib.DEFLATED, -15, 8, strategy)
            stream = writer.compress(bytes(data[:100])) + writer.flush(zlib.Z_SYNC_FLUSH)
            found.append(list(stream + writer.compress(bytes(data[100:])) + writer.flush()))
    for symbol in (284, 285):
        found.append(longest_copies(source, symbol))
    return found


class GuessTest(Case):
    def test_by_hand(self):
        self.assertEqual(guess([7, 7, 7, 7], 0), 0)
        self.assertEqual(guess([7, 7, 7, 7], 1), (3, 1))
        self.assertEqual(guess([7, 7, 7, 7], 2), 0)
        self.assertEqual(guess([7] * 400, 1), (258, 1))
        self.assertEqual(guess([7] * 400, 150), (250, 1))
        self.assertEqual(guess([1, 2, 3, 9, 1, 2, 3, 4, 1, 2, 3, 4], 8), (4, 4))
        self.assertEqual(guess([1, 2, 3, 4, 9, 1, 2, 3, 1, 2, 3, 4], 8), (4, 8))
        self.assertEqual(guess([1, 2, 3, 9, 1, 2, 3, 8, 1, 2, 3], 8), (3, 4))
        self.assertEqual(guess([], 0), 0)
        self.assertEqual(guess([1, 2, 3], 3), 0)

    def test_against_a_plain_search(self):
        source = numbers(711)
        for _ in range(12):
            data = repetitive(source, source.choice([5, 30, 350]))
            before = list(data)
            for index in range(len(data) + 1):
                self.assertEqual(guess(data, index), plain_guess(data, index))
            self.assertEqual(data, before)

    def test_up_to_the_end_of_the_data(self):
        for size in (257, 258, 259, 260):
            for index in range(1, size - 2):
                self.assertEqual(guess([4] * size, index), (min(258, size - index), 1))

    def test_the_greatest_distance(self):
        data = [1, 2, 3] + [0] * 32765 + [1, 2, 3]
        self.assertEqual(guess(data, 32768), (3, 32768))
        self.assertEqual(guess([9] + data[:-3] + [0] + data[-3:], 32770), 0)
        # The same for a recipe of literals only: the first of the last three agrees, or it does not.
        for zeros, told in [(32765, [0, 2, 0, 2]), (32766, [0, 5])]:
            items = [(1,), (2,), (3,)] + [(0,)] * zeros + [(1,), (2,), (3,)]
            found = recipe(bytes_of(placed([fixed_block(items, 1)])[0]))
            self.assertEqual(found[-1 - len(told):-1], told)


class RecipeTest(Case):
    def test_by_hand(self):
        self.assertEqual(recipe([3, 0]), [3, 0, 0])
        self.assertEqual(recipe([3, 252]), [3, 0, 63])
        # A literal that agrees, and a copy that agrees.
        self.assertEqual(recipe([75, 132, 3, 0]), [3, 2, 2, 0])
        self.assertEqual(recipe([1, 2, 0, 253, 255, 5, 6]), [1, 0, 2, 0])
        self.assertEqual(recipe([249, 0, 0, 255, 255]), [1, 31, 0, 0])
        # Two literals instead of a copy, and then one that agrees.
        stream = bytes_of(placed([fixed_block([(7,)] * 6, 1)])[0])
        self.assertEqual(recipe(stream), [3, 6, 1, 0, 0, 0, 0, 0, 2, 0])

    def test_the_two_forms_of_the_longest_copy(self):
        self.assertEqual(recipe(longest_copies(numbers(1), 285))[:3], [2, 2, 1])
        stream = bytes_of(placed([fixed_block([(7,), (284, 31, 0, 0)], 1)])[0])
        self.assertEqual(recipe(stream)[:-1], [3, 2, 1, 1, 1])
        stream = bytes_of(placed([fixed_block([(7,), (285, 0, 0, 0)], 1)])[0])
        self.assertEqual(recipe(stream)[:-1], [3, 2, 2])
        # A copy of this length from elsewhere than guessed.
        stream = bytes_of(placed([fixed_block([(7,), (7,), (285, 0, 1, 0)], 1)])[0])
        self.assertEqual(recipe(stream)[:-1], [3, 3, 1, 0, 0, 258, 2])
        stream = bytes_of(placed([fixed_block([(7,), (7,), (284, 31, 1, 0)], 1)])[0])
        self.assertEqual(recipe(stream)[:-1], [3, 3, 1, 0, 0, 1, 2])

    def test_streams_of_all_kinds(self):
        for stream in streams_of_all_kinds(numbers(712)):
            if len(inflated(stream)) < 500:
                before = list(stream)
                self.assertEqual(recipe(stream), plain_recipe(stream))
                self.assertEqual(stream, before)
        self.assert_new_list(recipe, [3, 0])

    def test_guesses_at_all_indexes(self):
        source = numbers(7121)
        for data in (repetitive(source, 200), [0] * 300, some_bytes(source, 200, 1)):
            # With nothing but literals, the recipe tells where a literal agrees.
            stream = bytes_of(placed([fixed_block([(byte,) for byte in data], 1)])[0])
            self.assertEqual(recipe(stream)[1:-1], [len(data)] + told_literals(data))

    def test_errors_of_the_stream(self):
        for function in (recipe, squeeze):
            self.assert_error(Truncated, 0, function, [])
            self.assert_error(BadKind, 1, function, [7, 0])
            self.assert_error(Extra, 16, function, [3, 0, 0])
            self.assert_error(TooFar, 3, function, bytes_of(placed([fixed_block([(257, 0, 0, 0)], 1)])[0]))
            full = whole_of(numbers(1), [stored_block([1] * 65535), fixed_block([(2,), (3,)], 1)])
            self.assert_error(TooMuch, 8 * 65540 + 11, function, full)

    def test_different_streams_of_the_same_data(self):
        source = numbers(713)
        found = {}
        for stream in streams_of_all_kinds(source) + [deflated([1, 2, 3] * 9, level) for level in range(10)]:
            key = tuple(inflated(stream)), tuple(recipe(stream))
            self.assertEqual(found.setdefault(key, stream), stream)


def told_literals(data):
    """What a recipe has for literals at all indexes, behind their number."""
    found = []
    count = 0
    for index in range(len(data)):
        if plain_guess(data, index) == 0:
            count += 1
        else:
            found += [count, 0]
            count = 0
    return found + ([count] if count else [])


class RebuildTest(Case):
    def test_streams_of_all_kinds(self):
        for stream in streams_of_all_kinds(numbers(7131)):
            data, numbers_of = inflated(stream), recipe(stream)
            before = list(data), list(numbers_of)
            self.assertEqual(rebuild(data, numbers_of), stream)
            self.assertEqual((data, numbers_of), before)
        self.assert_new_list(rebuild, [], [3, 0, 0])

    def test_a_number_more_or_less(self):
        for stream in streams_of_all_kinds(numbers(7132))[::5]:
            data, numbers_of = inflated(stream), recipe(stream)
            if len(data) < 1000:
                for more in (0, 1, 5):
                    self.assert_error(WrongRecipe, 0, rebuild, data, numbers_of + [more])
                for size in range(len(numbers_of)):
                    self.assert_error(WrongRecipe, 0, rebuild, data, numbers_of[:size])

    def test_data_that_is_too_short_or_too_long(self):
        for stream in streams_of_all_kinds(numbers(7133))[::4]:
            data, numbers_of = inflated(stream), recipe(stream)
            self.check_other(data + [0], numbers_of)
            self.check_other([0] + data, numbers_of)
            for size in range(0, len(data), 7):
                self.check_other(data[:size], numbers_of)

    def check_other(self, data, numbers_of):
        """There is no stream, or it is one with this recipe."""
        try:
            stream = rebuild(data, numbers_of)
        except BellowsError as error:
            self.assertIs(type(error), WrongRecipe)
            self.assertEqual(error.at, 0)
            return None
        self.assertEqual(inflated(stream), data)
        self.assertEqual(recipe(stream), numbers_of)
        return stream

    def test_every_number_changed(self):
        source = numbers(7134)
        rebuilt = 0
        for stream in streams_of_all_kinds(source)[::3]:
            data, numbers_of = inflated(stream), recipe(stream)
            if len(data) > 300:
                continue
            for index, number in enumerate(numbers_of):
                if index > 20 and source.random() < 0.9:
                    continue
                for other in (number + 1, number - 1, -1, 2, 3, 258, 259, 2 ** 70, -2 ** 70, number ^ 1):
                    if other != number:
                        changed = numbers_of[:index] + [other] + numbers_of[index + 1:]
                        rebuilt += self.check_other(data, changed) is not None
        # Fill bits and literals instead of guesses, for example, give other streams.
        self.assertGreater(rebuilt, 100)

    def test_numbers_that_cannot_be(self):
        for wrong in ([], [0], [3], [3, 0], [6, 0, 0], [7, 0, 0], [-1, 0, 0], [2, 0, 0], [3, 0, 64], [3, 0, -1],
                      [3, 1, 0], [3, -1, 0], [3, 2 ** 40, 0], [1, 0, 0], [1, 0, 0, 1], [1, 32, 0, 0], [1, -1, 0, 0],
                      [1, 0, 1, 0], [1, 0, -1, 0], [1, 0, 2 ** 40, 0], [3, 0, 0, 0], [2, 0, 3, 0], [5, 0, 0]):
            self.assert_error(WrongRecipe, 0, rebuild, [], wrong)
        self.assertEqual(rebuild([], [3, 0, 63]), [3, 252])
        self.assertEqual(rebuild([], [1, 31, 0, 0]), [249, 0, 0, 255, 255])
        self.assertEqual(rebuild([], [2, 0, 3, 0, 0]), bytes_of("0100000000" + "1100000000"))

    def test_items_that_cannot_be(self):
        data = [7, 7, 7, 7, 7, 7]
        for right in ([3, 2, 2, 0], [3, 6, 1, 0, 0, 0, 0, 0, 2, 0], [3, 3, 1, 0, 0, 4, 2, 0], [3, 3, 1, 4, 1, 1, 0],
                      [3, 3, 1, 0, 1, 1, 0]):
            if right != [3, 3, 1, 0, 1, 1, 0]:
                self.assertIsNotNone(self.check_other(data, right))
        for wrong in ([3, 2, 1, 5, 1, 0], [3, 2, 3, 0], [3, 2, -1, 0], [3, 2, 0, 7, 1, 0], [3, 2, 0, 0, 1, 0],
                      [3, 2, 1, 1, 1, 0], [3, 2, 1, 2, 1, 0], [3, 2, 1, 6, 1, 0], [3, 2, 1, 5, 0, 0],
                      [3, 2, 1, 5, 2, 0], [3, 2, 1, 5, -1, 0], [3, 2, 1, 259, 1, 0], [3, 2, 1, -3, 1, 0],
                      [3, 2, 1, 0, 0], [3, 1, 1, 0], [3, 3, 3, 0], [3, 1, 0, 0, 0], [3, 2, 1, 5, 2 ** 40, 0]):
            self.assert_error(WrongRecipe, 0, rebuild, data, wrong)
        # A copy that gives other bytes.
        self.assert_error(WrongRecipe, 0, rebuild, [1, 2, 3, 4, 5, 6], [3, 4, 3, 3, 3, 0])

    def test_an_item_told_although_it_agrees(self):
        longest = recipe(bytes_of(placed([fixed_block([(7,), (285, 0, 0, 0)], 1)])[0]))
        self.assertEqual(longest[:3], [3, 2, 2])
        self.assertIsNotNone(self.check_other([7] * 259, [3, 2, 1, 1, 1] + longest[-1:]))
        self.assert_error(WrongRecipe, 0, rebuild, [7] * 259, [3, 2, 1, 258, 1] + longest[-1:])
        self.assert_error(WrongRecipe, 0, rebuild, [1, 2], [3, 2, 1, 0, 0])
        self.assert_error(WrongRecipe, 0, rebuild, [1, 2], [3, 2, 0, 0, 1, 0])

    def test_heads_that_cannot_be(self):
        stream = deflated(some_bytes(numbers(7135), 300, 9), 9)
        data, right = inflated(stream), recipe(stream)
        self.assertEqual(right[0], 5)
        small = right[3]
        changes = {1: [256, 287, -1], 2: [0, 31, -1], 3: [3, 20, small - 1, small + 1, 2 ** 50, -1],
                   4: [8, -1], 4 + small: [0, 2 ** 50, -1, right[4 + small] + 1, right[4 + small] - 1],
                   5 + small: [19, -1, 16], 6 + small: [8, -1]}
        for index, values in changes.items():
            for value in values:
                self.assert_error(WrongRecipe, 0, rebuild, data, right[:index] + [value] + right[index + 1:])

    def test_a_stored_block_of_too_many_bytes(self):
        data = [1] * 65536
        self.assertEqual(rebuild(data[1:], [1, 0, 65535, 0])[:5], [1, 255, 255, 0, 0])
        self.assert_error(WrongRecipe, 0, rebuild, data, [1, 0, 65536, 0])
        two = rebuild(data, [0, 0, 65535, 1, 0, 1, 0])
        self.assertEqual(inflated(two), data)
        # No stream has more than 65,536 bytes of data.
        self.assert_error(WrongRecipe, 0, rebuild, data + [1], [0, 0, 65535, 1, 0, 2, 0])

    def test_long_data_takes_little_time(self):
        writer = zlib.compressobj(9, zlib.DEFLATED, -15, 8, zlib.Z_HUFFMAN_ONLY)
        stream = list(writer.compress(bytes(65536)) + writer.flush())
        self.assertEqual(rebuild([0] * 65536, recipe(stream)), stream)


class SqueezeTest(Case):
    def forms(self, stream, at, is_last, index):
        """The bits of the forms of a block at a position, in the order of point 714."""
        kind, behind, tokens = parts_of(stream)[0][index]
        borders = plain_outs(stream)
        data = inflated(stream)[borders[index]:borders[index + 1]]
        before = "0" * at
        found = [put_placed(before, [(kind, behind, tokens)], is_last)[at:]]
        for way in (0, 1, 2):
            if way or len(data) <= 65535:
                writer = BitWriter()
                for _ in range(at):
                    writer.put(0, 1)
                write_block(writer, way, tokens, data, int(is_last))
                found.append(bits_of(writer.data(), writer.count())[at:])
                self.assertEqual(len(found[-1]), block_size(way, tokens, data, at))
        return found

    def plain_squeeze(self, stream):
        many = len(parts_of(stream)[0])
        bits = ""
        for index in range(many):
            forms = self.forms(stream, len(bits), index == many - 1, index)
            bits += min(forms, key=len)
        return bytes_of(bits)

    def test_streams_of_all_kinds(self):
        shorter = 0
        for stream in streams_of_all_kinds(numbers(714)):
            before = list(stream)
            found = squeeze(stream)
            self.assertEqual(found, self.plain_squeeze(stream))
            self.assertEqual(inflated(found), inflated(stream))
            self.assertLessEqual(len(found), len(stream))
            self.assertEqual(len(read_blocks(found)[0]), len(read_blocks(stream)[0]))
            self.assertEqual(stream, before)
            shorter += len(found) < len(stream)
        self.assertGreater(shorter, 20)
        self.assert_new_list(squeeze, [3, 0])

    def test_the_block_as_it_is_comes_first(self):
        # The code lengths of two bytes that occur equally often are exchanged.
        data = [65] * 300 + [66] * 300 + [67] * 100
        tokens = [(byte,) for byte in data]
        writer = BitWriter()
        write_block(writer, 2, tokens, data, 1)
        [block] = read_blocks(writer.data())[0]
        head = block[6]
        at = [row[0] for row in head[3]].index(1)
        self.assertEqual([row[0] for row in head[3][at - 1:at + 3]], [2, 1, 3, 18])
        rows = head[3][:at - 1] + [(1, 0), (2, 0)] + head[3][at + 1:]
        stream = bytes_of(placed([block[:6] + (head[:3] + (rows,),)])[0])
        forms = self.forms(stream, 0, True, 0)
        self.assertEqual(len(forms[0]), len(forms[3]))
        self.assertLess(len(forms[0]), min(len(forms[1]), len(forms[2])))
        self.assertNotEqual(forms[0], forms[3])
        self.assertEqual(squeeze(stream), stream)
        # The same behind another block, in the middle of a byte.
        blocks = [fixed_block([(1,)]), read_blocks(stream)[0][0]]
        stream = bytes_of(placed(blocks)[0])
        self.assertEqual(squeeze(stream), stream)

    def test_ties_of_the_other_forms(self):
        # Stored and fixed: at position 0, n literals of 9 bits take 10 + 9 * n bits, and a stored
        # block 40 + 8 * n: equal for 30 literals.
        source = numbers(7145)
        for count, kind in [(29, 1), (30, 0), (31, 0)]:
            sizes = [0, 0, 0, 0]
            # Of some such literals, the dynamic block is the longest form.
            while sizes[3] <= max(sizes[1:3]):
                stream = self.long_dynamic(source.sample(range(144, 256), count))
                sizes = [len(form) for form in self.forms(stream, 0, True, 0)]
            self.assertEqual(sizes[1] - sizes[2], 30 - count)
            self.assertGreater(sizes[0], max(sizes[1:3]))
            self.assertEqual(squeeze(stream)[0] >> 1 & 3, kind)

    def test_a_tie_of_the_block_as_it_is_and_a_stored_one(self):
        # The block as it is, a fixed one, has as many bits as a stored one.
        items = [(value,) for value in numbers(7146).sample(range(144, 256), 30)]
        stream = bytes_of(placed([fixed_block(items, 1)])[0])
        sizes = [len(form) for form in self.forms(stream, 0, True, 0)]
        self.assertEqual(sizes[0], sizes[1])
        self.assertLess(sizes[0], sizes[3])
        self.assertEqual(squeeze(stream), stream)

    def test_a_tie_of_stored_and_dynamic(self):
        source = numbers(7147)
        ties = 0
        while ties < 3:
            values = source.sample(range(144, 256), source.randint(8, 20))
            data = [source.choice(values) for _ in range(source.randint(15, 40))]
            tokens = [(byte,) for byte in data]
            sizes = [block_size(way, tokens, data, 0) for way in (0, 1, 2)]
            if sizes[0] == sizes[2] < sizes[1]:
                stream = self.long_dynamic(data)
                self.assertEqual([len(form) for form in self.forms(stream, 0, True, 0)][1:], sizes)
                self.assertEqual(squeeze(stream)[0] >> 1 & 3, 0)
                ties += 1

    def test_a_tie_of_fixed_and_dynamic(self):
        ties = 0
        for first in range(1, 40):
            for second in range(40):
                data = [1] * first + [200] * second
                tokens = [(byte,) for byte in data]
                sizes = [block_size(way, tokens, data, 0) for way in (0, 1, 2)]
                if sizes[1] == sizes[2] < sizes[0]:
                    stream = self.long_dynamic(data)
                    self.assertEqual([len(form) for form in self.forms(stream, 0, True, 0)][1:], sizes)
                    self.assertEqual(squeeze(stream)[0] >> 1 & 3, 1)
                    ties += 1
        self.assertGreater(ties, 0)

    def long_dynamic(self, data):
        """A dynamic block of literals that takes many bits: each byte has a code of 8 or 9 bits."""
        rows = [(8, 0)] * 255 + [(9, 0)] * 2 + [(0, 0)]
        numbers_of = [0, 0, 0, 1, 2, 0, 2]
        return bytes_of(placed([(2, 1, 0, 0, 0, [(byte,) for byte in data], (257, 1, numbers_of, rows))])[0])

    def test_a_stored_block_in_its_new_place(self):
        source = numbers(7143)
        for bit in range(8):
            data = [200 + value for value in some_bytes(source, 40, 55)]
            stream = whole_of(source, [shifted(source, bit), stored_block(data), stored_block(data, 1)])
            found = squeeze(stream)
            self.assertEqual([block[0] for block in read_blocks(found)[0]], [1, 0, 0])
            self.assertEqual(found, self.plain_squeeze(stream))

    def test_a_stored_block_that_is_coded_better(self):
        stream = whole_of(numbers(1), [stored_block([7] * 3000, 1)])
        [block] = read_blocks(squeeze(stream))[0]
        # Literals for its bytes, no copies.
        self.assertEqual(block_tokens(block), [(7,)] * 3000)
        self.assertEqual(block[0], 2)

    def test_the_other_form_of_the_longest_copy(self):
        stream = longest_copies(numbers(1), 284)
        self.assertLess(len(squeeze(stream)), len(stream))
        self.assertEqual(parts_of(squeeze(stream))[0][1][2], parts_of(stream)[0][1][2])

    def test_a_block_that_is_too_long_for_a_stored_one(self):
        items = [(7,)] * 4 + [(285, 0, 0, 0)] * 254
        stream = bytes_of(placed([fixed_block(items, 1)])[0])
        self.assertEqual(inflated(squeeze(stream)), [7] * 65536)
        # A stored block can hold 65,535 literals, and not 65,536 of them.
        data = some_bytes(numbers(7144), 65536)
        for size, kind in [(65535, 0), (65536, 2)]:
            tokens = [(byte,) for byte in data[:size]]
            writer = BitWriter()
            write_block(writer, 1, tokens, data[:size], 1)
            found = squeeze(writer.data())
            self.assertEqual([block[0] for block in read_blocks(found)[0]], [kind])
            self.assertEqual(inflated(found), data[:size])


if __name__ == "__main__":
    unittest.main()
