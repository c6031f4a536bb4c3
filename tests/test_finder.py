"""Points 351 to 355, and bellows/copies/finder.py."""

import unittest

from bellows.copies.finder import Chains, candidates, common_length, search
from bellows.errors import NotEntered
from checks import Case, numbers, some_bytes


def plain_common(history, first, second, most):
    found = [m for m in range(most + 1) if second + m <= len(history)
             and history[first:first + m] == history[second:second + m]]
    return max(found)


def plain_candidates(history, at, floor, window):
    found = []
    for place in range(at - 1, -1, -1):
        if floor <= place and at - place <= window and at + 2 < len(history):
            if all(history[place + k] == history[at + k] for k in range(3)):
                found.append(place)
    return found


def plain_search(history, at, end, places, nice, longer_than):
    limit = min(258, end - at)
    looked_at = []
    for place in places:
        looked_at.append((plain_common(history, place, at, limit), at - place))
        if looked_at[-1][0] >= nice:
            break
    if not looked_at:
        return (0, 0)
    greatest = max(length for length, _ in looked_at)
    kept = next(one for one in looked_at if one[0] == greatest)
    return kept if greatest >= 3 and greatest > longer_than else (0, 0)


def histories():
    """Histories of few different values, of short periods, and with long repetitions."""
    source = numbers(351)
    found = [[], [7], [7, 7], [7, 7, 7], [7] * 5, [7] * 40, [0] * 300]
    for period in range(1, 8):
        part = list(range(period))
        found.append((part * 60)[:60 + period])
        found.append([9, 9] + (part * 10)[:33] + [9, 9, 9] + (part * 10)[:20])
    for values in (2, 3, 4, 256):
        for size in (4, 20, 60):
            found.append(some_bytes(source, size, values - 1))
    for _ in range(6):
        history = some_bytes(source, 20, 2)
        while len(history) < 80:
            start = source.randrange(len(history))
            history += history[start:start + source.randint(3, 30)] + some_bytes(source, 2, 2)
        found.append(history)
    # Values are not only bytes, and many of them fall together modulo small numbers.
    found.append([source.choice([0, 2 ** 32 - 1, 4096, 4096 * 31, 31, 961]) for _ in range(60)])
    found.append([source.choice([k * 4096 for k in range(3)]) for _ in range(60)])
    return found


class CommonLengthTest(Case):
    def test_by_hand(self):
        history = [1, 2, 3, 1, 2, 4, 1, 2, 3]
        self.assertEqual(common_length(history, 0, 3, 258), 2)
        self.assertEqual(common_length(history, 0, 6, 258), 3)
        self.assertEqual(common_length(history, 0, 6, 2), 2)
        self.assertEqual(common_length(history, 0, 6, 0), 0)
        self.assertEqual(common_length(history, 1, 3, 258), 0)
        self.assertEqual(common_length(history, 0, 9, 258), 0)
        self.assertEqual(common_length(history, 8, 9, 5), 0)

    def test_stretches_that_overlap(self):
        self.assertEqual(common_length([7] * 300, 0, 1, 258), 258)
        self.assertEqual(common_length([7] * 300, 0, 1, 400), 299)
        self.assertEqual(common_length([7] * 300, 5, 290, 258), 10)
        self.assertEqual(common_length([1, 2, 1, 2, 1, 2, 1, 3], 0, 2, 258), 5)

    def test_is_that_of_the_definition(self):
        source = numbers(352)
        for history in histories():
            for _ in range(60):
                second = source.randint(0, len(history))
                first = source.randint(0, second)
                most = source.choice([0, 1, 2, 3, 258, source.randint(0, 300)])
                if first < second:
                    self.assertEqual(common_length(history, first, second, most),
                                     plain_common(history, first, second, most))


class CandidatesTest(Case):
    def test_the_example(self):
        self.assertEqual(candidates([7] * 5, 2, 0, 32768), [1, 0])

    def test_floor_and_window(self):
        history = [7] * 10
        self.assertEqual(candidates(history, 6, 0, 32768), [5, 4, 3, 2, 1, 0])
        self.assertEqual(candidates(history, 6, 3, 32768), [5, 4, 3])
        self.assertEqual(candidates(history, 6, 5, 32768), [5])
        self.assertEqual(candidates(history, 6, 6, 32768), [])
        self.assertEqual(candidates(history, 6, 9, 32768), [])
        self.assertEqual(candidates(history, 6, 0, 1), [5])
        self.assertEqual(candidates(history, 6, 0, 2), [5, 4])
        self.assertEqual(candidates(history, 6, 0, 6), [5, 4, 3, 2, 1, 0])
        self.assertEqual(candidates(history, 6, 0, 5), [5, 4, 3, 2, 1])
        self.assertEqual(candidates(history, 6, 3, 2), [5, 4])
        self.assertEqual(candidates(history, 6, 4, 5), [5, 4])

    def test_positions_at_the_end(self):
        history = [7] * 10
        self.assertEqual(candidates(history, 7, 4, 32768), [6, 5, 4])
        for at in (8, 9, 10):
            self.assertEqual(candidates(history, at, 0, 32768), [])
        self.assertEqual(candidates([], 0, 0, 1), [])
        self.assertEqual(candidates([1, 1, 1], 0, 0, 1), [])

    def test_the_whole_window(self):
        history = [5, 6, 7] + [8] * 32765 + [5, 6, 7]
        self.assertEqual(candidates(history, 32768, 0, 32768), [0])
        self.assertEqual(candidates(history, 32768, 0, 32767), [])
        self.assertEqual(candidates(history, 32768, 1, 32768), [])

    def test_are_those_of_the_definition(self):
        source = numbers(353)
        for history in histories():
            for _ in range(30):
                at = source.randint(0, len(history))
                floor = source.choice([0, 0, source.randint(0, len(history))])
                window = source.choice([32768, 1, source.randint(1, 80)])
                self.assertEqual(candidates(history, at, floor, window),
                                 plain_candidates(history, at, floor, window))

    def test_the_list_is_new(self):
        history = [7] * 6
        self.assert_new_list(candidates, history, 3, 0, 32768)
        self.assertEqual(history, [7] * 6)


class SearchTest(Case):
    HISTORY = [1, 2, 3, 4, 5, 0, 1, 2, 3, 9, 0, 1, 2, 3, 4, 9, 0, 1, 2, 3, 9, 1, 2, 3, 4, 5, 6]

    def test_the_example(self):
        self.assertEqual(search([7] * 5, 2, 5, [1, 0], 258, 0), (3, 1))

    def test_the_nearest_of_the_longest_wins(self):
        history = self.HISTORY
        places = candidates(history, 21, 0, 32768)
        self.assertEqual(places, [17, 11, 6, 0])
        self.assertEqual(search(history, 21, 27, places, 258, 0), (5, 21))
        self.assertEqual(search(history, 21, 27, [17, 11, 6], 258, 0), (4, 10))
        self.assertEqual(search(history, 21, 27, [17, 6], 258, 0), (3, 4))
        self.assertEqual(search(history, 21, 27, [6, 17], 258, 0), (3, 15))
        self.assertEqual(search(history, 21, 27, [], 258, 0), (0, 0))

    def test_nice(self):
        history = self.HISTORY
        places = [17, 11, 6, 0]
        self.assertEqual(search(history, 21, 27, places, 6, 0), (5, 21))
        self.assertEqual(search(history, 21, 27, places, 5, 0), (5, 21))
        self.assertEqual(search(history, 21, 27, places, 4, 0), (4, 10))
        self.assertEqual(search(history, 21, 27, places, 3, 0), (3, 4))
        self.assertEqual(search(history, 21, 27, places, 1, 0), (3, 4))
        self.assertEqual(search(history, 21, 27, places, 0, 0), (3, 4))

    def test_longer_than(self):
        history = self.HISTORY
        places = [17, 11, 6, 0]
        for longer_than, found in [(0, (5, 21)), (3, (5, 21)), (4, (5, 21)), (5, (0, 0)), (258, (0, 0))]:
            self.assertEqual(search(history, 21, 27, places, 258, longer_than), found)
        # What is not longer is kept all the same, and stops the search.
        self.assertEqual(search(history, 21, 27, places, 4, 4), (0, 0))

    def test_end(self):
        history = self.HISTORY
        places = [17, 11, 6, 0]
        for end, found in [(27, (5, 21)), (26, (5, 21)), (25, (4, 10)), (24, (3, 4)), (23, (0, 0)),
                           (22, (0, 0)), (21, (0, 0))]:
            self.assertEqual(search(history, 21, end, places, 258, 0), found)

    def test_at_most_258(self):
        history = [7] * 600
        self.assertEqual(search(history, 1, 600, [0], 1000, 0), (258, 1))
        self.assertEqual(search(history, 100, 600, [98, 99], 1000, 257), (258, 2))
        self.assertEqual(search(history, 100, 600, [99], 258, 258), (0, 0))
        self.assertEqual(search(history, 342, 600, [341], 258, 0), (258, 1))
        self.assertEqual(search(history, 343, 600, [342], 258, 0), (257, 1))

    def test_places_are_not_checked(self):
        # Two common values only; and then a place beyond the window and below every floor.
        self.assertEqual(search([1, 2, 5, 1, 2, 6], 3, 6, [0], 258, 0), (0, 0))
        history = [1, 2, 3] + [0] * 33000 + [1, 2, 3]
        self.assertEqual(search(history, 33003, 33006, [5, 7, 0], 258, 0), (3, 33003))
        self.assertEqual(search(history, 33003, 33006, [5, 7, 0], 0, 0), (0, 0))

    def test_is_that_of_the_definition(self):
        source = numbers(354)
        for history in histories():
            for _ in range(40):
                at = source.randint(0, len(history))
                end = source.randint(at, len(history))
                places = candidates(history, at, 0, source.choice([32768, 20]))
                places = places[:source.choice([0, 1, 2, 5, 1000])]
                nice = source.choice([3, 4, 8, 258, source.randint(0, 60)])
                longer_than = source.choice([0, 0, 3, source.randint(0, 60)])
                before = list(places), list(history)
                self.assertEqual(search(history, at, end, places, nice, longer_than),
                                 plain_search(history, at, end, places, nice, longer_than))
                self.assertEqual((places, history), before)


class ChainsTest(Case):
    def test_by_hand(self):
        history = [7] * 8
        chains = Chains(32768)
        self.assertEqual(chains.floor(), 0)
        self.assertIsNone(chains.enter(history, 4))
        self.assertEqual(chains.nearest(history, 4, 10), [3, 2, 1, 0])
        self.assertEqual(chains.nearest(history, 4, 2), [3, 2])
        self.assertEqual(chains.nearest(history, 4, 0), [])
        self.assertEqual(chains.nearest(history, 2, 10), [1, 0])
        self.assertEqual(chains.nearest(history, 0, 10), [])

    def test_window(self):
        history = [7] * 8
        for window in (1, 2, 3, 4, 5):
            chains = Chains(window)
            chains.enter(history, 5)
            self.assertEqual(chains.nearest(history, 5, 10), [4, 3, 2, 1, 0][:window])
        history = [5, 6, 7] + [8] * 32765 + [5, 6, 7]
        for window, found in [(32768, [0]), (32767, [])]:
            chains = Chains(window)
            chains.enter(history, 32768)
            self.assertEqual(chains.nearest(history, 32768, 3), found)

    def test_not_entered(self):
        history = [7] * 8
        chains = Chains(32768)
        self.assertEqual(chains.nearest(history, 0, 3), [])
        self.assert_error(NotEntered, 0, chains.nearest, history, 1, 3)
        self.assert_error(NotEntered, 0, chains.nearest, history, 5, 0)
        chains.enter(history, 3)
        self.assertEqual(chains.nearest(history, 3, 3), [2, 1, 0])
        self.assert_error(NotEntered, 3, chains.nearest, history, 4, 3)
        self.assert_error(NotEntered, 3, chains.nearest, history, 5, 3)
        # Positions below the floor count, too.
        chains.forget(5)
        self.assert_error(NotEntered, 3, chains.nearest, history, 5, 3)
        # Where fewer than three values stand there is nothing to enter, and no error.
        for at in (6, 7, 8):
            self.assertEqual(chains.nearest(history, at, 3), [])
        chains.enter(history, 5)
        self.assertEqual(chains.nearest(history, 5, 3), [])

    def test_until_may_be_less_than_before(self):
        history = [7] * 10
        chains = Chains(32768)
        chains.enter(history, 5)
        chains.enter(history, 2)
        chains.enter(history, 0)
        chains.enter(history, 5)
        self.assertEqual(chains.nearest(history, 5, 10), [4, 3, 2, 1, 0])
        self.assert_error(NotEntered, 5, chains.nearest, history, 6, 10)
        chains.enter(history, 6)
        self.assertEqual(chains.nearest(history, 6, 10), [5, 4, 3, 2, 1, 0])

    def test_only_positions_whose_three_values_are_there(self):
        history = [1, 2, 3, 1]
        chains = Chains(32768)
        chains.enter(history, 4)
        history += [2]
        chains.enter(history, 2)
        history += [3, 1, 2, 3]
        # The positions 2 and 3 could not be entered when they were asked for.
        self.assert_error(NotEntered, 2, chains.nearest, history, 3, 5)
        chains.enter(history, 100)
        self.assertEqual(chains.nearest(history, 6, 5), [3, 0])
        self.assertEqual(chains.nearest(history, 3, 5), [0])
        history += [1, 2]
        self.assertEqual(chains.nearest(history, 7, 5), [4, 1])

    def test_forget(self):
        history = [7] * 10
        chains = Chains(4)
        chains.enter(history, 7)
        chains.forget(5)
        self.assertEqual(chains.floor(), 5)
        self.assertEqual(chains.nearest(history, 7, 10), [6, 5])
        chains.forget(4)
        self.assertEqual(chains.floor(), 5)
        self.assertEqual(chains.nearest(history, 7, 10), [6, 5])
        self.assertIsNone(chains.forget(7))
        self.assertEqual(chains.floor(), 7)
        self.assertEqual(chains.nearest(history, 7, 10), [])
        self.assertEqual(chains.nearest(history, 3, 10), [])

    def test_answers_are_those_of_a_plain_scan(self):
        source = numbers(355)
        for history in histories():
            for _ in range(4):
                self.check_in_goes(source, history)

    def check_in_goes(self, source, history):
        """Enter and ask in any order while the history grows."""
        window = source.choice([32768, 1, 2, 7, source.randint(1, 60)])
        chains = Chains(window)
        size = 0
        entered = 0
        floor = 0
        for _ in range(40):
            size = min(len(history), size + source.randint(0, 6))
            known = history[:size]
            if source.random() < 0.7:
                until = source.randint(0, size + 2)
                chains.enter(known, until)
                entered = max(entered, min(until, size - 2))
            if source.random() < 0.1:
                asked = source.randint(0, size)
                chains.forget(asked)
                floor = max(floor, asked)
            at = source.randint(0, size)
            count = source.choice([0, 1, 2, 1000])
            if size - at < 3:
                self.assertEqual(chains.nearest(known, at, count), [])
            elif entered < at:
                self.assert_error(NotEntered, entered, chains.nearest, known, at, count)
            else:
                expected = plain_candidates(known, at, floor, window)[:count]
                self.assertEqual(chains.nearest(known, at, count), expected)
            self.assertEqual(chains.floor(), floor)
            self.assertEqual(known, history[:size])

    def test_the_list_is_new(self):
        history = [7] * 8
        chains = Chains(32768)
        chains.enter(history, 4)
        self.assert_new_list(chains.nearest, history, 4, 3)

    def test_two_objects_do_not_depend_on_each_other(self):
        history = [7] * 8
        first, second = Chains(32768), Chains(32768)
        first.enter(history, 4)
        first.forget(2)
        self.assertEqual(second.floor(), 0)
        self.assert_error(NotEntered, 0, second.nearest, history, 4, 3)


if __name__ == "__main__":
    unittest.main()
