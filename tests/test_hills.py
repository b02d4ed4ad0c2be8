"""Points 14 and 23: hills and their bounds."""

import unittest
from copy import deepcopy
from itertools import product

from nudgewebs.some import best_cover, best_hill, bound_of, is_hill, most
from tests import samples
from tests.samples import BARE, CHAIN, FULL, LEAST, LOOP, ODD_VALUES, PAIR, SAMPLES, STAR, STUCK, TWINS
from tests.samples import greatest_size, mixed_web, nested, numbers_from, ring_web, small_webs
from tests.wrong import WRONG_HILLS

EVERY = list(range(20))


def small_ones():
    numbers = numbers_from(229)
    found = [*small_webs(1, 2, 9), *small_webs(2, 2, 9), *small_webs(3, 1, 5), *small_webs(3, 2, 4), *SAMPLES[:6], TWINS]
    return found + [mixed_web(numbers, 4, 2 + at % 3, 2) for at in range(300)]


def great_webs():
    numbers = numbers_from(233)
    found = [mixed_web(numbers, 20, chance, 1 + chance % 8) for chance in range(2, 40)] + SAMPLES
    sides = (20, [(a, b) for a in EVERY for b in EVERY if (a < 7) != (b < 7)], [[0]])
    return found + [sides, ring_web([3, 3, 4, 5, 5], [[0]]), (20, [(0, at) for at in EVERY[1:]], [[0]])]


def hills_of(web, numbers):
    """The hill of 0, one of the greatest numbers, the best one, and mixed ones."""
    count, many = web[0], len(web[2])
    yield [0] * count, [0] * many
    yield [1000] * count, [1000] * many
    yield [1000 * (at % 2) for at in range(count)], [0] * many
    yield best_hill(web)
    for greatest in [1, 2, 3, 30, 1000]:
        for _ in range(3):
            yield ([next(numbers) % (greatest + 1) for _ in range(count)],
                   [next(numbers) % (greatest + 1) for _ in range(many)])


class BoundOf(unittest.TestCase):
    def test_examples(self):
        self.assertEqual([bound_of(STAR, ([1, 0, 0], [2])), bound_of(STAR, ([0, 0, 0], [0]))], [2, 3])
        # The nudge acts on 0, which is 1000 higher; so are the other two lower than 0.
        self.assertEqual(bound_of(STAR, ([1000, 0, 0], [0])), 1001)
        self.assertEqual(bound_of(STAR, ([0, 1000, 999], [5])), 5 + 0 + 1001 + 1000)
        self.assertEqual(bound_of(STAR, ([1000, 1000, 1000], [1000])), 1003)

    def test_what_is_not_reached_counts_for_nothing(self):
        self.assertEqual(bound_of(PAIR, ([5, 900, 1000], [])), 0)
        self.assertEqual(bound_of((3, [(0, 1), (2, 1)], [[0]]), ([0, 3, 0], [0])), 1 + 4)
        self.assertEqual(bound_of((3, [(0, 1), (2, 1)], [[0]]), ([3, 3, 0], [3])), 3 + 1 + 1)
        self.assertEqual(bound_of(BARE, (EVERY, [])), 0)
        self.assertEqual(bound_of((20, FULL[1], []), (EVERY, [])), 0)
        self.assertEqual(bound_of((2, [], [[0]] * 3), ([4, 7], [3, 1, 2])), 6 + 4)

    def test_a_quantity_that_acts_on_itself(self):
        self.assertEqual(bound_of((1, [(0, 0)], [[0]]), ([7], [1000])), 1001)
        self.assertEqual(bound_of((1, [], [[0]]), ([7], [1000])), 1000)
        self.assertEqual(bound_of((1, [(0, 0)], [[0]]), ([7], [3])), 3 + 5)

    def test_all_low_hills_of_small_webs(self):
        for web in [*small_webs(2, 1, 9), STAR, CHAIN, PAIR, STUCK, LOOP, LEAST]:
            many = len(web[2])
            for numbers in product([0, 1, 2], repeat=web[0] + many):
                hill = (list(numbers[:web[0]]), list(numbers[web[0]:]))
                self.assertEqual(bound_of(web, hill), samples.hill_bound(web, hill), (web, hill))

    def test_mixed_hills(self):
        numbers = numbers_from(239)
        for web in small_ones() + great_webs():
            for hill in hills_of(web, numbers):
                before = deepcopy(hill)
                self.assertEqual(bound_of(web, hill), samples.hill_bound(web, hill), (web, hill))
                self.assertEqual(hill, before)

    def test_no_cover_has_a_size_above_it(self):
        numbers = numbers_from(241)
        for web in small_ones():
            greatest = greatest_size(web)
            for hill in hills_of(web, numbers):
                self.assertGreaterEqual(bound_of(web, hill), greatest, (web, hill))
        for web in great_webs():
            ways, rings = best_cover(web)
            size = sum(map(len, [way for _, way in ways] + rings))
            for hill in hills_of(web, numbers):
                self.assertGreaterEqual(bound_of(web, hill), size, (web, hill))


class BestHill(unittest.TestCase):
    def assert_best(self, web):
        hill = best_hill(web)
        self.assertIs(is_hill(web, hill), True, (web, hill))
        self.assertEqual(bound_of(web, hill), most(web), (web, hill))
        self.assertEqual(samples.hill_bound(web, hill), most(web))

    def test_small_webs(self):
        for web in small_ones():
            self.assert_best(web)
            self.assertEqual(most(web), greatest_size(web))

    def test_great_webs(self):
        for web in great_webs():
            self.assert_best(web)

    def test_webs_with_high_hills(self):
        # The longer way must be bought at each step by a greater height of the quantity ahead.
        for many in range(1, 10):
            pairs = [(0, 1 + at) for at in range(20 - many)] + [(at, at + 1) for at in range(20 - many, 19)]
            web = (20, sorted({*pairs, (0, 20 - many)}), [[0]])
            self.assert_best(web)
            self.assertEqual(most(web), 1 + many)

    def test_no_nudges(self):
        for web in [LEAST, LOOP, PAIR, BARE, (20, FULL[1], [])]:
            self.assertEqual(bound_of(web, best_hill(web)), 0)
            self.assertEqual([len(part) for part in best_hill(web)], [web[0], 0])


class IsHill(unittest.TestCase):
    def test_numbers(self):
        for number, right in [(0, True), (1, True), (999, True), (1000, True), (1001, False), (-1, False), (True, False),
                              (False, False), (10 ** 29, False), (-10 ** 29, False), ("1", False), (None, False),
                              ([1], False), ((1,), False), ({}, False), (b"1", False)]:
            for at in range(3):
                heights = [0] * at + [number] + [5] * (2 - at)
                self.assertIs(is_hill(STAR, (heights, [1000])), right, heights)
            self.assertIs(is_hill(STAR, ([1000] * 3, [number])), right)
            self.assertIs(is_hill(FULL, ([7] * 20, [0] * 7 + [number])), right)

    def test_as_many_as_there_are_quantities_and_nudges(self):
        for web in SAMPLES:
            for heights in range(23):
                for prices in range(11):
                    right = (heights, prices) == (web[0], len(web[2]))
                    self.assertIs(is_hill(web, ([3] * heights, [4] * prices)), right)
        self.assertIs(is_hill(BARE, ([0] * 420, [])), False)

    def test_lists_and_tuples(self):
        for value in [[[1, 0, 0], [2]], ((1, 0, 0), [2]), ([1, 0, 0], (2,)), ([1, 0, 0], [2], []), ([1, 0, 0],), (), [],
                      ([1, 0, 0], 2), ([1, 0, 0], None), ({0: 1, 1: 2, 2: 3}, [2]), ([1, 0, 0], {2: 0}), ([2], [1, 0, 0])]:
            self.assertIs(is_hill(STAR, value), False, value)

    def test_other_values(self):
        for value in [*ODD_VALUES, *WRONG_HILLS]:
            self.assertIs(is_hill(STAR, value), False, value)
            self.assertIs(is_hill(FULL, value), False, value)
        for levels in range(1, 20):
            for as_tuple in [False, True]:
                odd = nested(0, levels, as_tuple)
                for value in [odd, (odd, [2]), ([1, 0, 0], odd), ([1, 0, odd], [2]), ([odd], [odd])]:
                    right = value == ([1, 0, 0], [0])
                    self.assertIs(is_hill(STAR, value), right, value)


if __name__ == "__main__":
    unittest.main()
