"""Points 6, 8, 13 and 23: fillings whose reach has the greatest dimension of any filling."""

import unittest
from itertools import product

from nudgewebs.fillings import is_filling, reach_dimension
from nudgewebs.some import best_filling, most, reaches_some
from tests import samples
from tests.samples import BARE, CHAIN, FULL, LEAST, LONG, LOOP, PAIR, SAMPLES, STAR, STUCK, TWINS, all_lines, filled
from tests.samples import mixed_filling, mixed_web, numbers_from, ring_web, small_webs

EVERY = list(range(20))
# Numbers that grow from line to line are not enough for these.
RARE = [
    (4, [(0, 0), (0, 1), (0, 2), (0, 3), (1, 0), (1, 1), (1, 2), (1, 3), (2, 1), (2, 2), (2, 3)], [[0]]),
    (4, [(0, 0), (0, 1), (0, 2), (0, 3), (1, 0), (1, 1), (1, 2), (1, 3), (2, 1), (2, 2), (2, 3), (3, 0)], [[0]]),
    (4, [(0, 0), (0, 1), (0, 2), (0, 3), (1, 0), (1, 1), (1, 2), (1, 3), (3, 1), (3, 2), (3, 3)], [[0]]),
    (4, [(0, 0), (0, 1), (0, 2), (0, 3), (1, 0), (2, 1), (2, 2), (2, 3), (3, 1), (3, 2), (3, 3)], [[0]]),
    (4, [(0, 0), (0, 1), (0, 2), (0, 3), (2, 0), (2, 1), (2, 2), (2, 3), (3, 1), (3, 2), (3, 3)], [[0]]),
]


class BestFilling(unittest.TestCase):
    def assert_best(self, web):
        filling = best_filling(web)
        self.assertIs(is_filling(web, filling), True, web)
        numbers = filling[0] + [number for row in filling[1] for number in row]
        self.assertTrue(all(number and abs(number) <= 10 ** 6 for number in numbers))
        self.assertEqual([len(filling[0]), *map(len, filling[1])], [len(web[1]), *map(len, web[2])])
        self.assertEqual(reach_dimension(web, filling), most(web), (web, filling))
        return filling

    def test_small_webs(self):
        for web in [*small_webs(1, 2, 9), *small_webs(2, 2, 9), *small_webs(3, 1, 12), *small_webs(4, 1, 3), *SAMPLES]:
            filling = self.assert_best(web)
            if web[0] < 20:
                self.assertEqual(samples.reach_dimension(web, filling), most(web))

    def test_no_filling_of_few_numbers_has_a_greater_dimension(self):
        reached = {True: 0, False: 0}
        for web in [*small_webs(1, 2, 5), *small_webs(2, 2, 5), *small_webs(3, 1, 4), STAR, CHAIN, PAIR]:
            fillings = product([-2, -1, 1, 2], repeat=len(all_lines(web)))
            found = max(samples.reach_dimension(web, filled(web, numbers)) for numbers in fillings)
            self.assertEqual(found, most(web), web)
            self.assertIs(reaches_some(web), found == web[0])
            reached[found == web[0]] += 1
        self.assertGreater(min(reached.values()), 50)

    def test_no_mixed_filling_has_a_greater_dimension(self):
        numbers = numbers_from(251)
        for at in range(150):
            web = mixed_web(numbers, 3 + at % 6, 2 + at % 5, 3)
            self.assert_best(web)
            for greatest in [1, 3, 10 ** 6]:
                self.assertLessEqual(reach_dimension(web, mixed_filling(numbers, web, greatest)), most(web))

    def test_webs_for_which_most_numbers_are_not_enough(self):
        for web in RARE:
            self.assert_best(web)
            self.assertEqual(most(web), 4)
        # The numbers of quantities that act on nothing but themselves must differ.
        web = (20, [(at, at) for at in EVERY], [EVERY])
        self.assert_best(web)
        self.assertEqual([most(web), reach_dimension(web, filled(web, [3] * 40))], [20, 1])
        # So must the products of the numbers of equal rings.
        web = ring_web([2] * 10, [EVERY])
        self.assert_best((20, [pair for pair in web[1] if pair[0] // 2 == pair[1] // 2], [EVERY]))

    def test_twenty_quantities(self):
        for many in range(9):
            web = (20, FULL[1], FULL[2][:many])
            self.assert_best(web)
            self.assertEqual(most(web), 20 if many else 0)
        numbers = numbers_from(257)
        for chance in range(2, 40):
            self.assert_best(mixed_web(numbers, 20, chance, 1 + chance % 8))
        sides = (20, [(a, b) for a in EVERY for b in EVERY if (a < 7) != (b < 7)], [[0], [8, 9]])
        for web in [LONG, BARE, sides, ring_web([1, 2, 3, 4, 4, 3, 2, 1], [[0]]), (20, [], [EVERY] * 8)]:
            self.assert_best(web)

    def test_no_lines(self):
        self.assertEqual([best_filling(web) for web in [LEAST, BARE]], [([], [])] * 2)
        for web in [LOOP, PAIR, STUCK, TWINS, (20, FULL[1], [])]:
            self.assert_best(web)


if __name__ == "__main__":
    unittest.main()
