"""Points 12 and 22: pairings, loose quantities and gaps."""

import unittest
from itertools import combinations, product

from nudgewebs.pairings import greatest_pairing, is_gap, is_pairing, loose, pairing_size
from tests.samples import BARE, CHAIN, FULL, LEAST, LONG, LOOP, ODD_VALUES, PAIR, SAMPLES, STAR, STUCK, TWINS, all_lines
from tests.samples import mixed_web, nested, numbers_from, small_webs, subsets

EVERY = list(range(20))


def some_webs():
    """Small webs of all kinds, and mixed webs of up to six quantities with few lines."""
    numbers = numbers_from(109)
    webs = [*small_webs(1, 2, 9), *small_webs(2, 2, 9), *small_webs(3, 1, 4), STAR, CHAIN, PAIR, TWINS]
    mixed = [mixed_web(numbers, 3 + at % 4, 3 + at % 4, 3) for at in range(300)]
    return webs + [web for web in mixed if len(all_lines(web)) <= 11]


def great_webs():
    numbers = numbers_from(113)
    return [mixed_web(numbers, 20, chance, chance % 9) for chance in range(3, 60)] + SAMPLES


def is_paired(lines):
    """Point 12: no two lines have a source or a target in common."""
    return not any(one[0] == other[0] or one[1] == other[1] for one, other in combinations(lines, 2))


def all_pairings(web):
    """All pairings of a small web, built up line by line."""
    found = [[]]
    for line in all_lines(web):
        found += [some + [line] for some in found if is_paired(some + [line])]
    return found


def sources_on(web, quantities):
    return {source for source, target in all_lines(web) if target in quantities}


class Greatest(unittest.TestCase):
    def test_examples(self):
        self.assertEqual([pairing_size(web) for web in [STAR, CHAIN, PAIR, LEAST, LOOP, STUCK, TWINS]],
                         [2, 3, 2, 0, 1, 2, 4])
        self.assertEqual(greatest_pairing(CHAIN), [(0, 1), (1, 2), (3, 0)])
        self.assertEqual([greatest_pairing(LOOP), greatest_pairing(LEAST)], [[(0, 0)], []])
        self.assertIn(greatest_pairing(STAR), [[(0, 1), (3, 0)], [(0, 2), (3, 0)]])

    def assert_pairing(self, web):
        pairing = greatest_pairing(web)
        self.assertIs(is_pairing(web, pairing), True, (web, pairing))
        self.assertEqual(pairing, sorted(pairing))
        self.assertTrue(is_paired(pairing) and set(pairing) <= set(all_lines(web)))
        self.assertEqual(len(pairing), pairing_size(web))
        return pairing

    def test_no_other_pairing_has_more(self):
        for web in some_webs():
            greatest = max(len(some) for some in all_pairings(web))
            self.assertEqual(len(self.assert_pairing(web)), greatest, web)

    def test_sources_that_must_change(self):
        # Each source that is taken first must be given to another quantity.
        web = (5, [(0, 0), (0, 1), (1, 1), (1, 2), (2, 2), (2, 3), (3, 3), (3, 4), (4, 4)], [])
        for order in range(5):
            less = [pair for pair in web[1] if pair != (order, order)]
            self.assertEqual(len(self.assert_pairing((5, less, []))), 4)
            self.assertEqual(len(self.assert_pairing((5, less, [[order]]))), 5)
            self.assertEqual(len(self.assert_pairing((5, less, [[0]]))), 5)
        self.assertEqual(self.assert_pairing(web), [(at, at) for at in range(5)])

    def test_great_webs_by_a_gap_that_bounds_them(self):
        for web in great_webs():
            size, free = len(self.assert_pairing(web)), loose(web)
            # No pairing has more lines than there are other quantities and sources of these.
            self.assertEqual(size, web[0] - len(free) + len(sources_on(web, free)))

    def test_twenty_quantities(self):
        self.assertEqual([pairing_size(web) for web in [BARE, FULL, LONG]], [0, 20, 20])
        self.assertEqual(greatest_pairing(BARE), [])
        self.assertEqual(greatest_pairing(LONG), [(at, at + 1) for at in range(19)] + [(20, 0)])
        for many in range(9):
            web = (20, [], [EVERY] * many)
            pairing = self.assert_pairing(web)
            self.assertEqual([source for source, _ in pairing], [20 + at for at in range(many)])
        self.assertEqual(pairing_size((20, [(0, at) for at in EVERY], [EVERY] * 8)), 9)
        self.assertEqual(pairing_size((20, [(at, 0) for at in EVERY], [[0]] * 8)), 1)


class IsPairing(unittest.TestCase):
    def assert_pairings(self, web, values, right):
        for value in values:
            self.assertIs(is_pairing(web, value), right, (web, value))

    def test_right_ones(self):
        self.assert_pairings(STAR, [[], [(0, 1)], [(0, 2)], [(3, 0)], [(0, 1), (3, 0)], [(0, 2), (3, 0)]], True)
        self.assert_pairings(STUCK, [[(0, 0), (1, 1)], [(0, 1), (1, 0)], [(1, 0), (2, 1)], [(0, 0), (2, 1)]], True)
        for web in SAMPLES:
            self.assert_pairings(web, [[]] + [[line] for line in all_lines(web)[::7]], True)

    def test_not_ascending(self):
        self.assert_pairings(STAR, [[(3, 0), (0, 1)], [(3, 0), (0, 2)]], False)
        self.assert_pairings(CHAIN, [[(1, 2), (0, 1)], [(0, 1), (3, 0), (1, 2)], [(0, 1), (0, 1)]], False)

    def test_lines_that_are_none(self):
        self.assert_pairings(STAR, [[(1, 0)], [(0, 0)], [(3, 1)], [(2, 2)], [(0, 1), (2, 2)], [(4, 0)], [(0, 3)],
                                    [(-1, 0)], [(-3, 1)], [(3, -3)], [(0, 1), (3, 0), (4, 2)], [(10 ** 29, 0)]], False)

    def test_a_source_or_a_target_twice(self):
        self.assert_pairings(STAR, [[(0, 1), (0, 2)], [(0, 1), (0, 2), (3, 0)]], False)
        self.assert_pairings(STUCK, [[(0, 0), (0, 1)], [(0, 0), (1, 0)], [(0, 0), (2, 0)], [(1, 1), (2, 1)],
                                     [(0, 0), (1, 1), (2, 1)]], False)
        self.assert_pairings((1, [], [[0], [0]]), [[(1, 0), (2, 0)]], False)

    def test_all_lists_of_lines(self):
        for web in [*small_webs(1, 2, 9), *small_webs(2, 2, 5), STAR, PAIR]:
            places = list(product(range(web[0] + len(web[2])), range(web[0])))
            for many in range(3):
                for some in product(places, repeat=many):
                    right = list(some) == sorted(some) and set(some) <= set(all_lines(web)) and is_paired(some)
                    self.assert_pairings(web, [list(some)], right)

    def test_all_sets_of_lines(self):
        for web in some_webs()[::5]:
            lines = sorted(all_lines(web))
            for some in subsets(lines, 4):
                self.assert_pairings(web, [some], is_paired(some))

    def test_other_values(self):
        odd = ODD_VALUES + [((0, 1),), [[0, 1]], [(0, 1, 0)], [(0,)], [(0, True)], [(False, 1)], [(3, False)], {(0, 1): 1},
                            {(0, 1)}, [0, 1], [(0, 1), None], [(0, "1")], ["01"], (0, 1), [((0, 1),)], [(0, [1])]]
        self.assert_pairings(STAR, [value for value in odd if value not in ([], [(0, 1)])], False)
        self.assert_pairings(FULL, [value for value in odd if value not in ([], [(0, 1)])], False)
        for web in [LEAST, BARE]:
            self.assert_pairings(web, [value for value in odd if value != []], False)
        for levels in range(1, 20):
            for as_tuple in [False, True]:
                self.assert_pairings(STAR, [[nested((0, 1), levels, as_tuple)], [(0, nested(1, levels, as_tuple))]], False)

    def test_the_greatest_web(self):
        right = [(at, 19 - at) for at in EVERY]
        self.assert_pairings(FULL, [right, [(at, at) for at in EVERY], [(at + 8, at) for at in EVERY], right[3:17]], True)
        self.assert_pairings(FULL, [right[::-1], right + [(20, 0)], [(at, 0) for at in range(28)], all_lines(FULL)[:420],
                                    [(7, at) for at in EVERY]], False)


class Loose(unittest.TestCase):
    def test_examples(self):
        self.assertEqual([loose(web) for web in [STAR, CHAIN, PAIR, LEAST, LOOP, STUCK, TWINS]],
                         [[1, 2], [], [0, 2], [0], [], [], []])

    def test_those_to_which_some_greatest_pairing_has_no_line(self):
        for web in some_webs():
            pairings = all_pairings(web)
            greatest = [some for some in pairings if len(some) == pairing_size(web)]
            wanted = {quantity for some in greatest for quantity in range(web[0])
                      if quantity not in [target for _, target in some]}
            self.assertEqual(loose(web), sorted(wanted), web)

    def test_they_are_a_gap(self):
        found = 0
        for web in [*some_webs(), *great_webs()]:
            free = loose(web)
            lacking = len(free) - len(sources_on(web, free))
            self.assertEqual(lacking, web[0] - pairing_size(web))
            self.assertIs(is_gap(web, free), free != [])
            found += free != []
        self.assertGreater(found, 500)

    def test_twenty_quantities(self):
        self.assertEqual([loose(web) for web in [BARE, FULL, LONG]], [EVERY, [], []])
        self.assertEqual(loose((20, LONG[1], [])), [0])
        self.assertEqual(loose((20, [(0, at) for at in EVERY], [EVERY] * 8)), EVERY)
        self.assertEqual(loose((20, [(at, 0) for at in EVERY], [[0]] * 8)), EVERY[1:])
        # A row of changes leads from the last quantity to the first one.
        self.assertEqual(loose((20, sorted(LONG[1] + [(at, at) for at in range(19)]), [])), EVERY)


class IsGap(unittest.TestCase):
    def test_all_lists_of_quantities(self):
        for web in [*small_webs(1, 2, 9), *small_webs(2, 1, 9), STAR, PAIR, CHAIN, STUCK]:
            for many in range(web[0] + 2):
                for some in product(range(-1, web[0] + 1), repeat=many):
                    value = list(some)
                    right = value == sorted(set(value) & set(range(web[0])))
                    wanted = right and len(sources_on(web, value)) < len(value)
                    self.assertIs(is_gap(web, value), wanted, (web, value))

    def test_all_quantities_of_some_webs(self):
        for web in some_webs():
            gaps = [some for some in subsets(range(web[0]), web[0]) if len(sources_on(web, some)) < len(some)]
            for some in subsets(range(web[0]), web[0]):
                self.assertIs(is_gap(web, some), some in gaps)
            self.assertEqual(gaps == [], pairing_size(web) == web[0])

    def test_examples(self):
        for value, right in [([1, 2], True), ([0, 1, 2], True), ([1], False), ([], False), ([2, 1], False),
                             ([1, 1], False), ([1, 1, 2], False), ((1, 2), False), ([1, 2, 3], False), ([True, 2], False),
                             ([1, 2, None], False), ({1: 2}, False), ([-1, 1, 2], False), ([[1, 2]], False)]:
            self.assertIs(is_gap(STAR, value), right, value)

    def test_other_values(self):
        for value in ODD_VALUES:
            for web in [STAR, LEAST, (3, [], []), PAIR]:
                self.assertIs(is_gap(web, value), False)
        for levels in range(1, 21):
            for as_tuple in [False, True]:
                self.assertIs(is_gap((3, [], []), nested([1, 2], levels, as_tuple)), False)

    def test_twenty_quantities(self):
        for value in [[0], [19], [3, 4], EVERY]:
            self.assertEqual([is_gap(web, value) for web in [BARE, FULL, LONG]], [True, False, False])
        web = (20, [(0, at) for at in EVERY], [EVERY] * 8)
        self.assertEqual([is_gap(web, EVERY[:many]) for many in range(21)], [False] * 10 + [True] * 11)


if __name__ == "__main__":
    unittest.main()
