"""Points 551 to 559, and bellows/deflate/levels.py."""

import unittest

from bellows.copies.expand import expand
from bellows.copies.finder import candidates, search
from bellows.deflate import levels
from bellows.deflate.levels import Parser, run_at, settings, usable
from bellows.errors import Busy, InvalidLevel
from checks import Case, numbers, some_bytes

TABLE = [
    ("stored", 0, 0, 0, 0), ("greedy", 2, 12, 0, 0), ("greedy", 6, 24, 0, 0), ("greedy", 16, 48, 0, 0),
    ("waiting", 12, 24, 6, 4), ("waiting", 24, 48, 12, 6), ("waiting", 64, 96, 24, 8),
    ("waiting", 128, 160, 48, 12), ("waiting", 256, 258, 96, 24), ("waiting", 1024, 258, 258, 40),
]


def plain_usable(found, strategy):
    length, distance = found
    wrong = (length == 3 and distance > 4096 or strategy == 1 and length < 6 or strategy == 2)
    return (0, 0) if wrong else found


def plain_run(history, at, end, floor):
    length = 0
    if at - 1 >= floor:
        while length < 258 and at + length < end and history[at + length] == history[at - 1]:
            length += 1
    return (length, 1) if length >= 3 else (0, 0)


class PlainParser:
    """Points 555 to 558, word by word, without chains."""

    def __init__(self, history, at, floor, window):
        self.history = list(history)
        self.place = at
        self.low = floor
        self.window = window
        self.copy = (0, 0)

    def step(self, numbers_of_level, strategy, bounded):
        end = len(self.history)
        at = self.place
        if not (at < end and (bounded or end - at >= 320)):
            return None
        way, chain, nice, patience, good = numbers_of_level
        literal = (self.history[at],)
        if way == "stored" or strategy == 2:
            self.place += 1
            return [literal]
        if strategy == 3:
            run = plain_run(self.history, at, end, self.low)
            self.place += run[0] or 1
            return [run if run != (0, 0) else literal]
        if way == "greedy":
            found = self.found(chain, nice, 0, strategy)
            self.place += found[0] or 1
            return [found if found != (0, 0) else literal]
        if self.copy == (0, 0):
            found = self.found(chain, nice, 0, strategy)
            if found == (0, 0):
                self.place += 1
                return [literal]
            if found[0] > patience or bounded and at + found[0] == end:
                self.place += found[0]
                return [found]
            self.copy = found
            self.place += 1
            return []
        held = self.copy
        found = (0, 0)
        if held[0] < patience:
            chain = max(1, chain // 4) if held[0] >= good else chain
            found = self.found(chain, nice, held[0], strategy)
        if found == (0, 0):
            self.copy = (0, 0)
            self.place = at - 1 + held[0]
            return [held]
        before = (self.history[at - 1],)
        if bounded and at + found[0] == end:
            self.copy = (0, 0)
            self.place = at + found[0]
            return [before, found]
        self.copy = found
        self.place = at + 1
        return [before]

    def found(self, chain, nice, longer_than, strategy):
        places = candidates(self.history, self.place, self.low, self.window)[:chain]
        found = search(self.history, self.place, len(self.history), places, nice, longer_than)
        return plain_usable(found, strategy)

    def front(self):
        return self.place - 1 if self.copy != (0, 0) else self.place


def some_values(source, size):
    """Values with runs and repetitions of all lengths, some of them one inside the other."""
    values = some_bytes(source, 5, 3)
    while len(values) < size:
        way = source.randrange(4)
        if way == 0:
            values += some_bytes(source, source.randint(1, 8), source.choice([1, 4, 255]))
        elif way == 1:
            values += [source.randrange(3)] * source.choice([2, 3, 4, 9, 40, 300])
        else:
            distance = source.choice([1, 2, 3, 7, source.randint(1, len(values))])
            for _ in range(source.choice([2, 3, 4, 5, 6, 7, 9, 13, 30, 60, 270])):
                values.append(values[-min(distance, len(values))])
    return values[:size]


def all_tokens(parser, numbers_of_level, strategy):
    """The tokens of all steps with bounded input."""
    tokens = []
    found = parser.step(numbers_of_level, strategy, True)
    while found is not None:
        tokens += found
        found = parser.step(numbers_of_level, strategy, True)
    return tokens


class SettingsTest(Case):
    def test_the_table(self):
        self.assertEqual([settings(level) for level in range(10)], TABLE)
        self.assertEqual({type(settings(level)) for level in range(10)}, {tuple})

    def test_other_levels(self):
        for level in (-1, 10, 100, -10):
            self.assert_error(InvalidLevel, level, settings, level)

    def test_the_strategies(self):
        self.assertEqual((levels.DEFAULT, levels.FILTERED, levels.HUFFMAN, levels.RUNS, levels.FIXED),
                         (0, 1, 2, 3, 4))


class UsableTest(Case):
    def test_each_strategy(self):
        for strategy in range(5):
            for length in (3, 4, 5, 6, 7, 258):
                for distance in (1, 4095, 4096, 4097, 32768):
                    found = usable((length, distance), strategy)
                    self.assertEqual(found, plain_usable((length, distance), strategy))
                    self.assertIs(type(found), tuple)
            self.assertEqual(usable((0, 0), strategy), (0, 0))

    def test_by_hand(self):
        for strategy in (0, 3, 4):
            self.assertEqual(usable((3, 4096), strategy), (3, 4096))
            self.assertEqual(usable((3, 4097), strategy), (0, 0))
            self.assertEqual(usable((4, 32768), strategy), (4, 32768))
        self.assertEqual(usable((5, 1), 1), (0, 0))
        self.assertEqual(usable((6, 32768), 1), (6, 32768))
        self.assertEqual(usable((3, 1), 1), (0, 0))
        self.assertEqual(usable((258, 1), 2), (0, 0))


class RunTest(Case):
    def test_by_hand(self):
        history = [7] * 6 + [8] * 4
        self.assertEqual(run_at(history, 1, 10, 0), (5, 1))
        self.assertEqual(run_at(history, 2, 10, 0), (4, 1))
        self.assertEqual(run_at(history, 3, 10, 0), (3, 1))
        self.assertEqual(run_at(history, 4, 10, 0), (0, 0))
        self.assertEqual(run_at(history, 6, 10, 0), (0, 0))
        self.assertEqual(run_at(history, 7, 10, 0), (3, 1))

    def test_the_floor(self):
        history = [7] * 6
        self.assertEqual(run_at(history, 0, 6, 0), (0, 0))
        self.assertEqual(run_at(history, 1, 6, 0), (5, 1))
        self.assertEqual(run_at(history, 1, 6, 1), (0, 0))
        self.assertEqual(run_at(history, 2, 6, 1), (4, 1))
        self.assertEqual(run_at(history, 2, 6, 2), (0, 0))
        self.assertEqual(run_at(history, 2, 6, 5), (0, 0))

    def test_the_end(self):
        history = [7] * 300
        self.assertEqual(run_at(history, 1, 300, 0), (258, 1))
        self.assertEqual(run_at(history, 42, 300, 0), (258, 1))
        self.assertEqual(run_at(history, 43, 300, 0), (257, 1))
        self.assertEqual(run_at(history, 1, 4, 0), (3, 1))
        self.assertEqual(run_at(history, 1, 3, 0), (0, 0))
        self.assertEqual(run_at(history, 297, 300, 0), (3, 1))
        self.assertEqual(run_at(history, 298, 300, 0), (0, 0))
        self.assertEqual(run_at(history, 300, 300, 0), (0, 0))

    def test_is_that_of_the_point(self):
        source = numbers(554)
        for _ in range(300):
            history = some_bytes(source, 30, 1)
            at = source.randint(0, 30)
            end = source.randint(at, 30)
            floor = source.randint(0, 30)
            self.assertEqual(run_at(history, at, end, floor), plain_run(history, at, end, floor))


class StepTest(Case):
    def check_walk(self, source, level_numbers, strategy):
        """Steps while the history grows, compared with the plain parser after each of them."""
        values = some_values(source, source.choice([10, 400, 900]))
        before = source.choice([0, 0, source.randint(0, min(300, len(values)))])
        floor = source.choice([0, before, source.randint(0, before)])
        window = source.choice([32768, 32768, 1, 4, source.randint(1, 400)])
        parser = Parser(values[:before], before, floor, window)
        plain = PlainParser(values[:before], before, floor, window)
        fed = before
        tokens = []
        while fed < len(values) or plain.place < len(values):
            more = values[fed:fed + source.choice([1, 10, 100, 500])]
            kept = list(more)
            parser.extend(more)
            plain.history += more
            fed += len(more)
            self.assertEqual(more, kept)
            bounded = fed == len(values) or source.random() < 0.05
            if source.random() < 0.1:
                parser = parser.twin()
            expected = plain.step(level_numbers, strategy, bounded)
            while expected is not None:
                self.assertEqual(parser.step(level_numbers, strategy, bounded), expected)
                tokens += expected
                self.check_positions(parser, plain, floor, fed)
                expected = plain.step(level_numbers, strategy, bounded)
            self.assertIsNone(parser.step(level_numbers, strategy, bounded))
            self.check_positions(parser, plain, floor, fed)
        self.assertEqual(expand(tokens, values[floor:before]), values[before:])
        self.assertEqual(max([0] + [token[1] for token in tokens if len(token) == 2]) <= window, True)

    def check_positions(self, parser, plain, floor, end):
        self.assertEqual((parser.at(), parser.front(), parser.end(), parser.floor(), parser.held()),
                         (plain.place, plain.front(), end, floor, plain.copy))

    def test_each_level_and_strategy(self):
        source = numbers(555)
        for level in range(10):
            for strategy in range(5):
                for _ in range(3):
                    self.check_walk(source, settings(level), strategy)

    def test_other_numbers(self):
        source = numbers(556)
        for _ in range(60):
            way = source.choice(["greedy", "waiting", "waiting"])
            level_numbers = (way, source.choice([1, 2, 3, 4, 7, 8, 4096]), source.choice([3, 5, 20, 258]),
                             source.choice([3, 4, 6, 20, 258]), source.choice([0, 3, 4, 6, 20, 258]))
            self.check_walk(source, level_numbers, source.choice([0, 1, 4]))

    def test_319_and_320_values(self):
        for level in range(10):
            for strategy in range(5):
                parser = Parser([], 0, 0, 32768)
                parser.extend([5] * 319)
                self.assertIsNone(parser.step(settings(level), strategy, False))
                self.assertEqual((parser.at(), parser.end()), (0, 319))
                parser.extend([5])
                self.assertEqual(parser.step(settings(level), strategy, False), [(5,)])
                self.assertIsNone(parser.step(settings(level), strategy, False))
                self.assertIsNotNone(parser.step(settings(level), strategy, True))

    def test_no_values(self):
        parser = Parser([1, 2, 3], 3, 0, 32768)
        for bounded in (False, True):
            self.assertIsNone(parser.step(settings(6), 0, bounded))

    def test_level_0(self):
        parser = Parser([], 0, 0, 32768)
        parser.extend([5] * 10)
        self.assertEqual(all_tokens(parser, settings(0), 0), [(5,)] * 10)
        parser.extend([5] * 10)
        self.assertEqual(all_tokens(parser, settings(0), 3), [(5,)] * 10)

    def test_runs(self):
        values = [1, 2, 3, 1, 2, 3, 1, 2, 3, 3, 3, 3, 3]
        parser = Parser(values, 0, 0, 1)
        self.assertEqual(all_tokens(parser, settings(9), 3), [(one,) for one in values[:9]] + [(4, 1)])
        parser = Parser([3] + [3] * 5, 1, 1, 1)
        self.assertEqual(all_tokens(parser, settings(9), 3), [(3,), (4, 1)])

    def test_greedy(self):
        # A longer copy is one position later, which only waiting finds.
        values = [1, 2, 3, 9, 2, 3, 4, 5, 6, 8, 1, 2, 3, 4, 5, 6]
        parser = Parser(values, 10, 0, 32768)
        self.assertEqual(all_tokens(parser, settings(3), 0), [(3, 10), (3, 7)])
        parser = Parser(values, 10, 0, 32768)
        self.assertEqual(all_tokens(parser, settings(6), 0), [(1,), (5, 7)])

    def test_chain_and_nice(self):
        # Three candidates, of which the farther ones give the longer copies.
        values = [1, 2, 3, 4, 5, 0, 1, 2, 3, 4, 9, 1, 2, 3, 8, 1, 2, 3, 4, 5]
        for chain, nice, first in [(1, 258, (3, 4)), (2, 258, (4, 9)), (3, 258, (5, 15)), (3, 4, (4, 9)),
                                   (3, 3, (3, 4)), (3, 5, (5, 15)), (4096, 6, (5, 15))]:
            parser = Parser(values, 15, 0, 32768)
            self.assertEqual(parser.step(("greedy", chain, nice, 0, 0), 0, True), [first])
            self.assertEqual(parser.at(), 15 + first[0])

    def test_waiting_that_is_worth_it(self):
        values = [1, 2, 3, 9, 2, 3, 4, 5, 6, 8, 7, 1, 2, 3, 4, 5, 6, 0, 0]
        parser = Parser(values, 11, 0, 32768)
        self.assertEqual(parser.step(settings(6), 0, True), [])
        self.assertEqual((parser.at(), parser.front(), parser.held()), (12, 11, (3, 11)))
        self.assertEqual(parser.step(settings(6), 0, True), [(1,)])
        self.assertEqual((parser.at(), parser.front(), parser.held()), (13, 12, (5, 8)))
        self.assertEqual(parser.step(settings(6), 0, True), [(5, 8)])
        self.assertEqual((parser.at(), parser.front(), parser.held()), (17, 17, (0, 0)))

    def test_a_better_copy_that_reaches_the_end(self):
        values = [1, 2, 3, 9, 2, 3, 4, 5, 6, 8, 7, 1, 2, 3, 4, 5, 6]
        parser = Parser(values, 11, 0, 32768)
        self.assertEqual(parser.step(settings(6), 0, True), [])
        self.assertEqual(parser.step(settings(6), 0, True), [(1,), (5, 8)])
        self.assertEqual((parser.at(), parser.front(), parser.held()), (17, 17, (0, 0)))
        self.assertIsNone(parser.step(settings(6), 0, True))

    def test_a_first_copy_that_reaches_the_end(self):
        parser = Parser([1, 2, 3, 4, 1, 2, 3, 4], 4, 0, 32768)
        self.assertEqual(parser.step(settings(6), 0, True), [(4, 4)])
        # With input that may grow, it is held as any other one.
        parser = Parser([1, 2, 3, 4] + [1, 2, 3, 4] + list(range(10, 326)), 4, 0, 32768)
        self.assertEqual(parser.step(settings(6), 0, False), [])
        self.assertEqual(parser.held(), (4, 4))

    def test_patience(self):
        # One position later there is a copy of 7 instead of 6.
        values = [1, 2, 3, 4, 5, 6, 99, 2, 3, 4, 5, 6, 7, 8, 98, 1, 2, 3, 4, 5, 6, 7, 8, 97]
        for patience, steps in [(5, [[(6, 15)]]), (6, [[], [(6, 15)]]), (7, [[], [(1,)], [(7, 9)]])]:
            parser = Parser(values, 15, 0, 32768)
            for expected in steps:
                self.assertEqual(parser.step(("waiting", 64, 258, patience, 100), 0, True), expected)

    def test_good(self):
        # The better copy is that of the fourth candidate; chain 8 leaves 2 of them, chain 16 all 4.
        values = [2, 3, 4, 5, 6, 91, 2, 3, 4, 92, 2, 3, 4, 93, 1, 2, 3, 94, 1, 2, 3, 4, 5, 6, 95]
        for chain, good, second in [(8, 4, [(1,)]), (8, 3, [(3, 4)]), (16, 3, [(1,)]), (3, 3, [(3, 4)])]:
            parser = Parser(values, 18, 0, 32768)
            self.assertEqual(parser.step(("waiting", chain, 258, 10, good), 0, True), [])
            self.assertEqual(parser.held(), (3, 4))
            self.assertEqual(parser.step(("waiting", chain, 258, 10, good), 0, True), second)
            self.assertEqual(parser.held(), (5, 19) if second == [(1,)] else (0, 0))

    def test_how_many_candidates_good_leaves(self):
        # The better copy is that of the second or the third candidate of the position 19.
        third = [2, 3, 4, 5, 6, 91, 2, 3, 4, 92, 2, 3, 4, 93, 1, 2, 3, 94, 1, 2, 3, 4, 5, 6, 95]
        second = [92, 91, 2, 3, 4, 5, 6, 94, 93, 99, 2, 3, 4, 93, 1, 2, 3, 94, 1, 2, 3, 4, 5, 6, 95]
        first = [98, 91, 2, 3, 4, 5, 97, 94, 93, 99, 2, 3, 4, 5, 1, 2, 3, 94, 1, 2, 3, 4, 5, 6, 95]
        for values, least in ((third, 12), (second, 8), (first, 1)):
            for chain in (1, 2, 3, 4, 5, 7, 8, 9, 11, 12, 13, 15, 16, 20):
                for good, enough in ((3, chain >= least), (4, chain >= least // 4)):
                    parser = Parser(values, 18, 0, 32768)
                    self.assertEqual(parser.step(("waiting", chain, 258, 10, good), 0, True), [])
                    expected = [(1,)] if enough else [(3, 4)]
                    self.assertEqual(parser.step(("waiting", chain, 258, 10, good), 0, True), expected)

    def test_copies_of_three_from_far_away(self):
        for distance, first in [(4096, [(3, 4096)]), (4097, [(1,)])]:
            values = [1, 2, 3] + [9] * (distance - 3) + [1, 2, 3, 8]
            parser = Parser(values, distance, 0, 32768)
            self.assertEqual(parser.step(settings(1), 0, True), first)

    def test_window_and_floor(self):
        values = [1, 2, 3, 4, 5, 1, 2, 3, 4, 5]
        for floor, window, tokens in [(0, 5, [(5, 5)]), (0, 4, [(one,) for one in values[:5]]),
                                      (1, 32768, [(1,), (4, 5)]), (2, 32768, [(1,), (2,), (3, 5)])]:
            parser = Parser(values, 5, floor, window)
            self.assertEqual(all_tokens(parser, settings(9), 0), tokens)

    def test_the_division_of_the_input_plays_no_part(self):
        source = numbers(559)
        for level in range(10):
            values = some_values(source, 1200)
            results = []
            for size in (1, 37, 1200):
                parser = Parser([], 0, 0, 32768)
                tokens = []
                for at in range(0, len(values), size):
                    parser.extend(values[at:at + size])
                    found = parser.step(settings(level), 0, False)
                    while found is not None:
                        tokens += found
                        found = parser.step(settings(level), 0, False)
                    self.assertLess(parser.end() - parser.front(), 578)
                results.append((tokens + all_tokens(parser, settings(level), 0), parser.at()))
            self.assertEqual(results[1:], results[:1] * 2)
            self.assertEqual(expand(results[0][0]), values)


class ParserTest(Case):
    def test_a_new_parser(self):
        parser = Parser([1, 2, 3, 4], 3, 2, 100)
        self.assertEqual((parser.at(), parser.front(), parser.end(), parser.floor()), (3, 3, 4, 2))
        self.assertEqual(parser.held(), (0, 0))

    def test_part(self):
        parser = Parser([1, 2, 3, 4], 0, 0, 100)
        self.assertIsNone(parser.extend([5, 6]))
        self.assertEqual(parser.part(0, 6), [1, 2, 3, 4, 5, 6])
        self.assertEqual(parser.part(3, 5), [4, 5])
        self.assertEqual(parser.part(6, 6), [])
        self.assert_new_list(parser.part, 1, 3)
        self.assertEqual(parser.end(), 6)

    def test_forget(self):
        parser = Parser([1, 2, 3], 0, 0, 100)
        self.assert_error(Busy, 0, parser.forget)
        self.assertEqual(parser.floor(), 0)
        all_tokens(parser, settings(6), 0)
        self.assertIsNone(parser.forget())
        self.assertEqual(parser.floor(), 3)
        parser.extend([1, 2, 3, 1, 2, 3])
        self.assert_error(Busy, 3, parser.forget)
        self.assertEqual(all_tokens(parser, settings(6), 0), [(1,), (2,), (3,), (3, 3)])

    def test_forget_while_a_copy_is_held(self):
        parser = Parser([1, 2, 3, 4, 1, 2, 3, 9], 4, 0, 100)
        self.assertEqual(parser.step(settings(6), 0, True), [])
        self.assert_error(Busy, 4, parser.forget)
        self.assertEqual((parser.held(), parser.floor(), parser.at()), ((3, 4), 0, 5))

    def test_what_it_is_given_is_copied(self):
        history = [1, 2, 3]
        parser = Parser(history, 0, 0, 100)
        more = [4, 5]
        parser.extend(more)
        history[0] = more[0] = 9
        self.assertEqual(parser.part(0, 5), [1, 2, 3, 4, 5])
        parser = Parser((1, 2, 3), 0, 0, 100)
        self.assertEqual(parser.part(0, 3), [1, 2, 3])

    def test_twin(self):
        source = numbers(5591)
        values = some_values(source, 700)
        for level in (1, 4, 6, 9):
            first = Parser(values[:50], 20, 10, 300)
            first.extend(values[50:600])
            for _ in range(source.randint(1, 60)):
                first.step(settings(level), 0, False)
            state = first.at(), first.front(), first.end(), first.floor(), first.held()
            second = first.twin()
            self.assertEqual((second.at(), second.front(), second.end(), second.floor(), second.held()), state)
            second.extend(values[600:])
            tokens = all_tokens(second, settings(level), 0)
            second.forget()
            self.assertEqual((first.at(), first.front(), first.end(), first.floor(), first.held()), state)
            first.extend(values[600:])
            self.assertEqual(all_tokens(first, settings(level), 0), tokens)
            self.assertEqual(first.floor(), 10)

    def test_new_lists(self):
        parser = Parser([5] * 5, 0, 0, 100)
        tokens = parser.step(settings(6), 0, True)
        tokens.append("changed")
        self.assertEqual(parser.step(settings(6), 0, True), [(4, 1)])


if __name__ == "__main__":
    unittest.main()
