"""Points 8 and 20: the reach of a filling and the lists that stay unmoved."""

import unittest
from itertools import product

from nudgewebs.fillings import is_reached, reach_dimension, reach_rows, unmoved_rows
from tests import samples
from tests.samples import BARE, CHAIN, FULL, LEAST, LONG, LOOP, PAIR, SAMPLES, STAR, TWINS, all_lines, dimension, filled
from tests.samples import is_reduced, mixed_filling, mixed_web, numbers_from, product_of, reached_states, small_webs

GREAT = 10 ** 30 - 1


def units(count):
    return [[int(at == other) for other in range(count)] for at in range(count)]


def kept(numbers, count, parts):
    """A filling of the web of all pairs and one nudge with a reach of not more than `parts`.

    It acts within rows of small numbers only: each line has the number that a sum of such rows gives.
    """
    rows = [[next(numbers) % 9 - 4 for _ in range(count)] for _ in range(parts)]
    found = [[sum((next(numbers) % 9 - 4) * row[at] for row in rows) for at in range(count)] for _ in range(count + 1)]
    return [number or 1 for row in found for number in row]


def cases():
    """Webs with fillings of many kinds; the reach of some is not all states."""
    numbers = numbers_from(67)
    for web in [*small_webs(1, 2, 9), *small_webs(2, 2, 9)]:
        for greatest in [1, 3, 10 ** 6]:
            yield web, mixed_filling(numbers, web, greatest)
    for at in range(150):
        web = mixed_web(numbers, 3 + at % 5, 2 + at % 4, 3)
        yield web, mixed_filling(numbers, web, [1, 2, 10 ** 6][at % 3])
    for count in range(8, 21, 3):
        for many in [1, 2]:
            web = mixed_web(numbers, count, 3, 1)
            yield (count, web[1], [[0], [1, 2]][:many]), mixed_filling(numbers, (count, web[1], [[0], [1, 2]][:many]), 5)
    for count, parts in [(5, 2), (6, 4), (9, 3), (12, 7)]:
        web = (count, [(a, b) for a in range(count) for b in range(count)], [list(range(count))])
        yield web, filled(web, kept(numbers, count, parts))


class Reach(unittest.TestCase):
    def assert_reach(self, web, filling):
        count, states = web[0], reached_states(web, filling)
        rows, unmoved = reach_rows(web, filling), unmoved_rows(web, filling)
        self.assertTrue(is_reduced(rows, count), (web, filling))
        self.assertTrue(is_reduced(unmoved, count), (web, filling))
        self.assertEqual(len(rows), dimension(states))
        self.assertEqual(dimension(states + rows), dimension(states), (web, filling))
        self.assertEqual(reach_dimension(web, filling), len(rows))
        self.assertEqual(len(rows) + len(unmoved), count)
        for one in unmoved:
            self.assertTrue(all(product_of(one, state) == 0 for state in states + rows))
        return rows, unmoved

    def test_examples(self):
        self.assertEqual([reach_dimension(STAR, ([1, -1], [[1]])), reach_rows(STAR, ([2, 3], [[1]]))],
                         [2, [[1, 0, 0], [0, 2, 3]]])
        self.assertEqual(unmoved_rows(STAR, ([2, 3], [[1]])), [[0, 3, -2]])
        self.assertEqual(reach_rows(STAR, ([-4, 6], [[-5]])), [[1, 0, 0], [0, 2, -3]])
        self.assertEqual(unmoved_rows(STAR, ([-4, 6], [[-5]])), [[0, 3, 2]])
        self.assertEqual(reach_rows(STAR, ([6, 4], [[9]])), [[1, 0, 0], [0, 3, 2]])

    def test_fractions_of_the_sums(self):
        # The reach has also those states of which the nudges reach only a multiple.
        self.assertEqual(reach_rows(CHAIN, ([5, -7], [[2]])), units(3))
        self.assertEqual(unmoved_rows(CHAIN, ([5, -7], [[2]])), [])
        web = (3, [], [[0, 1, 2], [0, 1, 2]])
        self.assertEqual(reach_rows(web, ([], [[2, 4, 6], [3, 6, 9]])), [[1, 2, 3]])
        self.assertEqual(unmoved_rows(web, ([], [[2, 4, 6], [3, 6, 9]])), [[3, 0, -1], [0, 3, -2]])
        self.assertEqual(reach_rows(web, ([], [[1, 1, 1], [1, 2, 4]])), [[1, 0, -2], [0, 1, 3]])
        self.assertEqual(unmoved_rows(web, ([], [[1, 1, 1], [1, 2, 4]])), [[2, -3, 1]])
        self.assertEqual(reach_rows(web, ([], [[2, 3, 5], [7, 3, 5]])), [[1, 0, 0], [0, 3, 5]])

    def test_no_nudges(self):
        for web in [LEAST, LOOP, PAIR, BARE, (20, FULL[1], [])]:
            filling = filled(web, [3] * 400)
            self.assertEqual([reach_dimension(web, filling), reach_rows(web, filling)], [0, []])
            self.assertEqual(unmoved_rows(web, filling), units(web[0]))
            self.assertIs(is_reached(web, filling, [0] * web[0]), True)
            self.assertIs(is_reached(web, filling, [0] * (web[0] - 1) + [1]), False)

    def test_all_fillings_of_few_numbers(self):
        for web in [*small_webs(2, 2, 5), STAR, CHAIN, (3, [(0, 1), (0, 2), (1, 0)], [[0, 1]])]:
            if len(all_lines(web)) <= 5:
                for numbers in product([-2, -1, 1], repeat=len(all_lines(web))):
                    self.assert_reach(web, filled(web, numbers))

    def test_many_webs(self):
        found = set()
        for web, filling in cases():
            rows, unmoved = self.assert_reach(web, filling)
            found.add((min(len(rows), 3), min(len(unmoved), 3)))
        self.assertGreaterEqual(len(found), 12)

    def test_states_that_cancel_each_other(self):
        # Two nudges push the same quantities, and a quantity undoes what another one does.
        web = (4, [(0, 1), (0, 2), (1, 3), (2, 3)], [[0], [0]])
        rows, unmoved = self.assert_reach(web, ([1, 1, 1, -1], [[1], [-1]]))
        self.assertEqual([rows, unmoved], [[[1, 0, 0, 0], [0, 1, 1, 0]], [[0, 1, -1, 0], [0, 0, 0, 1]]])
        rows, unmoved = self.assert_reach(web, ([1, 1, 1, 1], [[1], [-1]]))
        self.assertEqual([rows, unmoved], [[[1, 0, 0, 0], [0, 1, 1, 0], [0, 0, 0, 1]], [[0, 1, -1, 0]]])

    def test_the_greatest_webs(self):
        numbers = numbers_from(71)
        for many in [1, 2, 3, 8]:
            web = (20, FULL[1], FULL[2][:many])
            for filling in [filled(web, [10 ** 6] * 560), mixed_filling(numbers, web, 10 ** 6),
                            filled(web, [10 ** 6 if at % 3 else -10 ** 6 for at in range(560)])]:
                self.assert_reach(web, filling)
        self.assertEqual(reach_rows(FULL, mixed_filling(numbers, FULL, 10 ** 6)), units(20))
        self.assertEqual(reach_rows(FULL, filled(FULL, [10 ** 6] * 560)), [[1] * 20])
        self.assertEqual(reach_rows(FULL, filled(FULL, [-10 ** 6] * 560)), [[1] * 20])
        self.assertEqual(unmoved_rows(FULL, filled(FULL, [7] * 560)),
                         [unit[:-1] + [-1] for unit in units(20)[:-1]])

    def test_one_long_row(self):
        for at in range(1, 20):
            web = (20, LONG[1][:at] + LONG[1][at + 1:], [[0]])
            rows, _ = self.assert_reach(web, filled(web, [10 ** 6 - at] * 40))
            self.assertEqual(rows, units(20)[:at + 1])

    def test_equal_spaces_have_equal_rows(self):
        web = (3, [], [[0, 1, 2]] * 3)
        one = ([], [[1, 2, 3], [1, 1, 1], [2, 3, 4]])
        other = ([], [[3, 4, 5], [-1, -3, -5], [5, 7, 9]])
        self.assertEqual(reach_rows(web, one), reach_rows(web, other))
        self.assertEqual(unmoved_rows(web, one), unmoved_rows(web, other))


class IsReached(unittest.TestCase):
    def test_examples(self):
        some = ([1, -1], [[1]])
        self.assertEqual([is_reached(STAR, some, state) for state in
                          [[0, 1, 1], [0, 1, -1], [5, 0, 0], [5, -GREAT, GREAT], [0, 0, 0], [1, 0, 1]]],
                         [False, True, True, True, True, False])
        self.assertIs(is_reached(CHAIN, ([5, -7], [[2]]), [1, 1, 1]), True)
        self.assertIs(is_reached((1, [(0, 0)], [[0]]), ([10 ** 6], [[10 ** 6]]), [1]), True)

    def test_by_the_dimension(self):
        numbers, found = numbers_from(73), {True: 0, False: 0}
        for web, filling in cases():
            states = reached_states(web, filling)
            tried = [[0] * web[0], [next(numbers) % 7 - 3 for _ in range(web[0])]]
            tried += [[sum((-1) ** k * state[at] * (k + 2) for k, state in enumerate(states)) + more
                       for at in range(web[0])] for more in (0, 1)]
            for state in tried:
                right = dimension(states + [state]) == dimension(states)
                self.assertIs(is_reached(web, filling, state), right, (web, filling, state))
                found[right] += 1
        self.assertGreater(min(found.values()), 200)

    def test_the_greatest_webs(self):
        numbers = numbers_from(79)
        state = [GREAT - at for at in range(20)]
        self.assertIs(is_reached(FULL, mixed_filling(numbers, FULL, 10 ** 6), state), True)
        self.assertIs(is_reached(FULL, filled(FULL, [10 ** 6] * 560), state), False)
        self.assertIs(is_reached(FULL, filled(FULL, [10 ** 6] * 560), [-GREAT] * 20), True)
        self.assertIs(is_reached(TWINS, filled(TWINS, [1, 2, 3, 4, 5, 6, 5, 6]), [0, 0, 0, 1]), True)

    def test_all_that_a_run_leads_to(self):
        numbers = numbers_from(83)
        for web in SAMPLES:
            filling = mixed_filling(numbers, web, 3)
            state = [0] * web[0]
            for _ in range(web[0] + 3):
                self.assertIs(is_reached(web, filling, state), True)
                state = samples.step(web, filling, state, [next(numbers) % 7 - 3 for _ in web[2]])


if __name__ == "__main__":
    unittest.main()
