"""Points 13 and 23: whether any value is a cover."""

import unittest
from copy import deepcopy
from itertools import permutations, product

from nudgewebs.some import is_cover
from tests import samples
from tests.samples import BARE, CHAIN, FULL, LONG, LOOP, ODD_VALUES, PAIR, SAMPLES, STAR, STUCK, TWINS
from tests.samples import cover_from, covers, mixed_web, nested, numbers_from, ring_web, small_webs
from tests.wrong import WRONG_HILLS

EVERY = list(range(20))
# A way, a ring of three and a ring of one quantity; the last quantity is not reached.
MIXED = (6, [(0, 1), (0, 2), (2, 3), (3, 4), (4, 2), (4, 4), (5, 5)], [[0, 1], [0]])
NESTED = [nested([0], levels, as_tuple) for levels in range(1, 20) for as_tuple in (False, True)]


class IsCover(unittest.TestCase):
    def assert_covers(self, web, values, right):
        for value in values:
            before = deepcopy(value)
            self.assertIs(is_cover(web, value), right, (web, value))
            self.assertEqual(value, before)

    def test_all_covers_of_small_webs(self):
        numbers = numbers_from(227)
        webs = [*small_webs(1, 2, 9), *small_webs(2, 2, 9), *small_webs(3, 1, 5), STAR, CHAIN, PAIR, TWINS]
        for web in webs + [mixed_web(numbers, 4, 2 + at % 2, 2) for at in range(100)]:
            self.assert_covers(web, [cover_from(web, chosen) for chosen in covers(web)], True)

    def test_all_values_of_short_rows(self):
        rows = [list(row) for many in range(3) for row in product([0, 1], repeat=many)] + [[2], [-1], [0, 1, 0]]
        ways = [(nudge, row) for nudge in [0, 1] for row in rows] + [(2, [0]), (-1, [0])]
        few = [[], *[[way] for way in ways]]
        more = few + [[one, other] for one in ways for other in ways]
        rings = [[], *[[row] for row in rows]]
        for web in [STUCK, (2, [(0, 1), (1, 1)], [[0], [0, 1]]), (2, [(1, 0)], [[1], [1]]), (2, [(0, 0)], [[0, 1]]),
                    (2, [(0, 1), (1, 0)], [])]:
            # Numbers below 0 and lists without items are none of the kinds that the words of the test take.
            for value in [*product(more, rings), *product(few, [[one, other] for one in rows for other in rows])]:
                numbers = [nudge for nudge, _ in value[0]]
                parts = [way for _, way in value[0]] + value[1]
                right = (all(0 <= nudge < len(web[2]) for nudge in numbers)
                         and all(row and set(row) <= {0, 1} for row in parts) and samples.is_cover(web, *value))
                self.assert_covers(web, [value], right)

    def test_in_any_sequence_and_from_any_quantity_of_a_ring(self):
        web = ring_web([1, 2, 3, 1], [[0, 6]])
        for rings in permutations([[0], [1, 2], [3, 4, 5]]):
            turns = [[ring[at:] + ring[:at] for at in range(len(ring))] for ring in rings]
            for turned in product(*turns):
                self.assert_covers(web, [([], list(turned)), ([(0, [6])], list(turned))], True)
        backwards = [([], [[2, 1], ring]) for ring in permutations([3, 4, 5])]
        for ways, rings in backwards:
            self.assert_covers(web, [(ways, [list(ring) for ring in rings])], rings[1] in [(3, 4, 5), (4, 5, 3), (5, 3, 4)])
        ways = [(0, [0, 1, 2]), (1, [3]), (2, [4, 5])]
        web = (6, [(0, 1), (1, 2), (4, 5)], [[0], [3], [4]])
        self.assert_covers(web, [(list(some), []) for some in permutations(ways)], True)

    def test_both_lists_empty(self):
        for web in SAMPLES:
            self.assert_covers(web, [([], [])], True)
            self.assert_covers(web, [((), []), ([], ()), [[], []], ([],), ([], [], []), [], (), ([], None), ({}, [])], False)

    def test_right_ones(self):
        self.assert_covers(MIXED, [([(0, [0, 2, 3, 4])], []), ([(0, [1])], [[4]]), ([(1, [0]), (0, [1])], [[3, 4, 2]]),
                                   ([(0, [1]), (1, [0, 2, 3])], [[4]]), ([(1, [0, 1])], [[4, 2, 3]])], True)

    def test_a_ring_of_one_quantity(self):
        self.assert_covers((1, [(0, 0)], [[0]]), [([], [[0]]), ([(0, [0])], [])], True)
        self.assert_covers((1, [(0, 0)], [[0]]), [([(0, [0])], [[0]]), ([], [[0], [0]]), ([], [[0, 0]])], False)
        self.assert_covers((1, [], [[0]]), [([], [[0]])], False)
        self.assert_covers(LOOP, [([], [[0]])], False)
        self.assert_covers(MIXED, [([], [[2]]), ([], [[5]])], False)

    def test_a_nudge_or_a_quantity_twice(self):
        self.assert_covers(MIXED, [([(0, [0]), (0, [1])], []), ([(0, [0]), (1, [0])], []), ([(0, [1]), (1, [0, 1])], []),
                                   ([(0, [0, 2])], [[2, 3, 4]]), ([], [[4], [2, 3, 4]]), ([], [[4], [4]]),
                                   ([(0, [0, 2, 3, 4, 2])], []), ([(0, [0, 2, 3, 4, 4])], []),
                                   ([], [[2, 3, 4, 2, 3, 4]]), ([], [[4, 4]])], False)

    def test_where_no_nudge_acts_and_no_pair_leads(self):
        self.assert_covers(MIXED, [([(1, [1])], []), ([(0, [2])], []), ([(1, [0, 3])], []), ([(0, [1, 0])], []),
                                   ([(0, [0, 2, 4])], []), ([], [[2, 4, 3]]), ([], [[0, 1]]), ([], [[2, 3]]), ([], [[0]]),
                                   ([(0, [5])], []), ([(2, [0])], []), ([(0, [0]), (2, [1])], [])], False)

    def test_rows_without_quantities(self):
        self.assert_covers(MIXED, [([(0, [])], []), ([], [[]]), ([(1, [0]), (0, [])], []), ([], [[4], []])], False)

    def test_rings_that_are_not_reached(self):
        self.assert_covers(PAIR, [([], [[0, 1]]), ([], [[1, 0]])], False)
        self.assert_covers((3, PAIR[1], [[2]]), [([], [[0, 1]]), ([(0, [2])], [[0, 1]])], False)
        self.assert_covers((3, PAIR[1], [[1]]), [([], [[0, 1]]), ([], [[1, 0]]), ([(0, [1, 2])], [])], True)
        self.assert_covers((20, FULL[1], []), [([], [[at] for at in EVERY]), ([], [EVERY]), ([], [[7]])], False)

    def test_lists_and_tuples(self):
        self.assert_covers(STAR, [([(0, [0, 2])], [])], True)
        self.assert_covers(STAR, [[[(0, [0, 2])], []], (((0, [0, 2]),), []), ([[0, [0, 2]]], []), ([(0, (0, 2))], []),
                                  ([(0, [0, 2])], ()), ([(0, [0, 2], [])], []), ([(0,)], []), ([0, [0, 2]], []),
                                  ([([0, 2], 0)], []), ([], [(0, [0, 2])]), ({(0, 1): 2}, []), ([{0: [0, 2]}], [])], False)
        self.assert_covers(STUCK, [([], [[0, 1]])], True)
        self.assert_covers(STUCK, [([], ([0, 1],)), ([], [(0, 1)]), ([[0, 1]], []), ([], [0, 1]), ([], [{0: 1}])], False)

    def test_bools_and_numbers_out_of_range(self):
        self.assert_covers(STUCK, [([(False, [0])], []), ([(0, [False])], []), ([(0, [True])], []), ([], [[False]]),
                                   ([], [[True, 0]]), ([], [[0, True]]), ([(0, [2])], []), ([(0, [-1])], []),
                                   ([(0, [0, -1])], []), ([], [[-1]]), ([], [[-2]]), ([], [[0, -1]]), ([(-1, [0])], []),
                                   ([(1, [0])], []), ([], [[10 ** 29]]), ([(10 ** 29, [0])], []), ([], [[2]])], False)

    def test_other_values(self):
        for web in SAMPLES:
            self.assert_covers(web, [value for value in [*ODD_VALUES, *WRONG_HILLS] if value != ([], [])], False)
        for value in [*ODD_VALUES, *NESTED]:
            odd = [(value, []), ([], value), ([value], []), ([], [[value]]), ([(value, [0])], []), ([(0, [value])], []),
                   ([(0, [0, value])], []), ([(0, [0]), value], []), ([], [[0], [value]]), (value, value)]
            self.assert_covers(STAR, [one for one in odd if value != []], False)
            # Lists of quantities and the list without items may stand in the place of a way or of a list.
            for value in [([], [value]), ([(0, value)], [])]:
                self.assertIn(is_cover(STUCK, value), [False, True])

    def test_twenty_quantities(self):
        self.assert_covers(LONG, [([(0, EVERY)], []), ([(0, EVERY[:7])], [])], True)
        self.assert_covers(LONG, [([(0, EVERY[1:])], []), ([(0, EVERY[::-1])], []), ([], [EVERY]), ([(0, EVERY + [0])], []),
                                  ([(0, EVERY[:9] + EVERY[10:])], [])], False)
        self.assert_covers(FULL, [([(at, [at, 19 - at]) for at in range(8)], [[8, 11], [9], [10]]), ([], [EVERY]),
                                  ([(7, EVERY[::-1])], []), ([], [[at] for at in EVERY])], True)
        self.assert_covers(FULL, [([(0, EVERY)], [[3]]), ([(8, EVERY)], []), ([], [[at] for at in EVERY + [5]]),
                                  ([(at, [at]) for at in range(9)], []), ([], [[0]] * 420), ([], [[0] * 420]),
                                  ([(0, [at]) for at in EVERY], [])], False)
        self.assert_covers(BARE, [([], [[at]]) for at in EVERY] + [([(0, [at])], []) for at in EVERY], False)


if __name__ == "__main__":
    unittest.main()
