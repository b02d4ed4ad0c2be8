"""Points 7, 8, 15 and 26: webs that are seen through their nudges."""

import unittest
from itertools import product

from nudgewebs.errors import InvalidFilling, InvalidNumber, InvalidState, InvalidWeb
from nudgewebs.every import reaches_every
from nudgewebs.fillings import is_filling, reach_dimension, unmoved_rows
from nudgewebs.seen import hidden_dimension, hidden_rows, sees_every, sees_some, shown, turned_filling
from nudgewebs.some import reaches_some
from nudgewebs.webs import turned
from tests import samples
from tests.samples import BARE, CHAIN, FULL, LEAST, LONG, LOOP, PAIR, SAMPLES, STAR, STUCK, TWINS, all_lines, dimension
from tests.samples import filled, is_reduced, mixed_filling, mixed_web, numbers_from, product_of, reached_states, small_webs

GREAT = 10 ** 30 - 1
SOME = ([1, -1], [[1]])


def shown_by_words(web, filling, state, number):
    """Point 15, step by step."""
    found = []
    for _ in range(number):
        found.append([sum(number * state[target] for target, number in zip(nudge, row))
                      for nudge, row in zip(web[2], filling[1])])
        state = samples.step(web, filling, state, [0] * len(web[2]))
    return found


def cases():
    """Webs with fillings of many kinds."""
    numbers = numbers_from(283)
    for web in [*small_webs(1, 2, 9), *small_webs(2, 2, 7), *SAMPLES[:-3], SAMPLES[-1]]:
        for greatest in [1, 9]:
            yield web, mixed_filling(numbers, web, greatest)
    for at in range(200):
        web = mixed_web(numbers, 3 + at % 6, 2 + at % 4, 3)
        yield web, mixed_filling(numbers, web, [1, 2, 10 ** 6][at % 3])


def greatest_webs():
    numbers = numbers_from(293)
    for many in [0, 1, 2, 8]:
        web = (20, FULL[1], FULL[2][:many])
        yield web, mixed_filling(numbers, web, 10 ** 6)
        yield web, filled(web, [10 ** 6] * 560)
    yield LONG, filled(LONG, [-10 ** 6] * 20)
    yield turned(LONG), filled(LONG, [2] * 20)
    yield BARE, ([], [])


class Shown(unittest.TestCase):
    def test_examples(self):
        web = (3, [(1, 0), (2, 1)], [[0]])
        self.assertEqual(shown(web, ([2, 3], [[1]]), [1, 10, 100], 3), [[1], [20], [600]])
        self.assertEqual(shown(STAR, ([4, 5], [[7]]), [1, 10, 100], 3), [[7], [0], [0]])
        self.assertEqual(shown((2, [(0, 0)], [[0, 1], [1]]), ([3], [[2, -1], [5]]), [1, 10], 3), [[-8, 50], [6, 0], [18, 0]])

    def test_step_by_step(self):
        numbers = numbers_from(307)
        for web, filling in [*cases(), *greatest_webs()]:
            for greatest in [4, 2 * GREAT + 1]:
                state = [next(numbers) ** 4 % greatest - greatest // 2 for _ in range(web[0])]
                for number in [0, 1, 2, 5]:
                    self.assertEqual(shown(web, filling, state, number), shown_by_words(web, filling, state, number))

    def test_sixty_at_most(self):
        for web, filling in [(CHAIN, ([5, -7], [[2]])), (FULL, filled(FULL, [10 ** 6] * 560)), (LOOP, ([3], []))]:
            state = [GREAT - at for at in range(web[0])]
            self.assertEqual(shown(web, filling, state, 60), shown_by_words(web, filling, state, 60))
            self.assertEqual(shown(web, filling, state, 0), [])
            for number in [-1, 61, 62, 10 ** 29, -10 ** 29, True, False, None, "3", b"3", [3], (3,), {}, ()]:
                self.assertRaises(InvalidNumber, shown, web, filling, state, number)

    def test_the_number_comes_last(self):
        self.assertRaises(InvalidWeb, shown, None, None, None, 61)
        self.assertRaises(InvalidFilling, shown, STAR, ([1], [[1]]), None, 61)
        self.assertRaises(InvalidState, shown, STAR, SOME, [0, 0], 61)
        self.assertRaises(InvalidNumber, shown, STAR, SOME, [0, 0, 0], 61)

    def test_no_nudges(self):
        self.assertEqual(shown(PAIR, ([1, 2, 3], []), [4, 5, 6], 3), [[], [], []])
        self.assertEqual(shown(LEAST, ([], []), [4], 1), [[]])
        self.assertEqual(shown(BARE, ([], []), [4] * 20, 60), [[]] * 60)


class Hidden(unittest.TestCase):
    def test_a_state_is_hidden_if_all_that_is_shown_is_0(self):
        numbers, found = numbers_from(311), {True: 0, False: 0}
        for web, filling in cases():
            rows = hidden_rows(web, filling)
            self.assertEqual(len(rows), hidden_dimension(web, filling))
            self.assertTrue(is_reduced(rows, web[0]), (web, filling))
            mixed = [[next(numbers) % 5 - 2 for _ in range(web[0])] for _ in range(3)]
            units = [[int(at == other) for other in range(web[0])] for at in range(web[0])]
            sums = [[sum((next(numbers) % 5 - 2) * number for number in one) for one in zip(*rows)]] if rows else []
            for state in rows + sums + mixed + units:
                # The state itself is shown, and what stands behind `count` steps.
                still = not any(any(one) for one in shown_by_words(web, filling, state, web[0] + 1))
                self.assertEqual(dimension(rows + [state]) == len(rows), still, (web, filling, state))
                found[still] += 1
        self.assertGreater(min(found.values()), 500)

    def test_the_dimension(self):
        # What is shown are the products with the states that the turned web reaches.
        for web, filling in [*cases(), *greatest_webs()]:
            other = (turned(web), turned_filling(web, filling))
            self.assertEqual(hidden_dimension(web, filling), web[0] - reach_dimension(*other))
            if web[0] < 20:
                self.assertEqual(hidden_dimension(web, filling), web[0] - dimension(reached_states(*other)))

    def test_they_are_the_unmoved_rows_of_the_turned_web(self):
        for web, filling in [*cases(), *greatest_webs()]:
            rows = hidden_rows(web, filling)
            self.assertEqual(rows, unmoved_rows(turned(web), turned_filling(web, filling)))
            self.assertTrue(is_reduced(rows, web[0]), (web, filling))
            for state in rows:
                self.assertFalse(any(any(one) for one in shown(web, filling, state, web[0] + 1)))

    def test_examples(self):
        self.assertEqual(hidden_rows(STAR, SOME), [[0, 1, 0], [0, 0, 1]])
        self.assertEqual(hidden_rows((3, [(1, 0), (2, 0)], [[0]]), ([2, 3], [[1]])), [[0, 3, -2]])
        self.assertEqual(hidden_rows((2, [], [[0, 1]]), ([], [[6, -4]])), [[2, 3]])
        self.assertEqual(hidden_rows((2, [(0, 0), (1, 1)], [[0, 1]]), ([5, 7], [[6, -4]])), [])

    def test_no_nudges(self):
        for web in [LEAST, LOOP, PAIR, BARE]:
            filling = filled(web, [3] * 9)
            units = [[int(at == other) for other in range(web[0])] for at in range(web[0])]
            self.assertEqual(hidden_rows(web, filling), units)
            self.assertEqual(hidden_dimension(web, filling), web[0])

    def test_twenty_quantities(self):
        self.assertEqual([hidden_dimension(web, filling) for web, filling in greatest_webs()],
                         [20, 20, 0, 19, 0, 19, 0, 19, 19, 0, 20])


class TurnedFilling(unittest.TestCase):
    def test_each_turned_pair_has_the_number_of_its_pair(self):
        numbers = numbers_from(313)
        for web in [*small_webs(2, 2, 9), *small_webs(3, 1, 4), *SAMPLES, mixed_web(numbers, 20, 3, 8)]:
            filling = filled(web, list(range(1, 561)))
            other = turned_filling(web, filling)
            self.assertIs(is_filling(turned(web), other), True)
            given = dict(zip(web[1], filling[0]))
            self.assertEqual({(target, source): number for (source, target), number in given.items()},
                             dict(zip(turned(web)[1], other[0])))
            self.assertEqual(other[1], filling[1])
            self.assertEqual(turned_filling(turned(web), other), filling)

    def test_examples(self):
        self.assertEqual(turned_filling(PAIR, ([5, 6, 7], [])), ([6, 5, 7], []))
        self.assertEqual(turned_filling((3, [(0, 2), (1, 0), (2, 1)], [[0, 2]]), ([4, 5, 6], [[8, 9]])),
                         ([5, 6, 4], [[8, 9]]))
        self.assertEqual(turned_filling(LEAST, ([], [])), ([], []))

    def test_pairs_with_equal_numbers(self):
        self.assertEqual(turned_filling(FULL, filled(FULL, [-3] * 560)), filled(FULL, [-3] * 560))


class Sees(unittest.TestCase):
    def test_examples(self):
        self.assertEqual([sees_some(web) for web in [STAR, CHAIN, PAIR, LEAST, LOOP, STUCK]], [False] * 5 + [True])
        self.assertEqual([sees_every(web) for web in [STAR, CHAIN, PAIR, LEAST, LOOP, STUCK]], [False] * 6)
        for web in [(3, [(1, 0), (2, 1)], [[0]]), (2, [(0, 0)], [[0], [1]]), turned(LONG)]:
            self.assertEqual([sees_some(web), sees_every(web)], [True, True])

    def test_as_the_turned_web_is_reached(self):
        numbers = numbers_from(317)
        webs = [*small_webs(2, 2, 9), *small_webs(3, 1, 5), *SAMPLES, TWINS]
        webs += [mixed_web(numbers, 20, chance, 1 + chance % 8) for chance in range(2, 30)]
        for web in webs:
            self.assertIs(sees_some(web), reaches_some(turned(web)))
            self.assertIs(sees_every(web), reaches_every(turned(web)))

    def test_all_fillings_of_few_numbers(self):
        found = {(some, every): 0 for some, every in [(False, False), (True, False), (True, True)]}
        for web in [*small_webs(1, 2, 4), *small_webs(2, 2, 4), *small_webs(3, 1, 4), STAR, CHAIN, PAIR]:
            fillings = [filled(web, numbers) for numbers in product([-2, -1, 1, 2], repeat=len(all_lines(web)))]
            clear = [hidden_dimension(web, filling) == 0 for filling in fillings]
            self.assertIs(sees_some(web), any(clear), web)
            self.assertIs(sees_every(web), all(clear), web)
            found[any(clear), all(clear)] += 1
        self.assertGreater(min(found.values()), 5, found)

    def test_products_with_the_hidden_states_are_0(self):
        for web, filling in cases():
            other = (turned(web), turned_filling(web, filling))
            for state in hidden_rows(web, filling):
                self.assertFalse(any(product_of(state, one) for one in reached_states(*other)))


if __name__ == "__main__":
    unittest.main()
