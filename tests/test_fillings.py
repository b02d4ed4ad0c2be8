"""Points 6, 7 and 20: what a filling is, and steps and rows of steps."""

import unittest
from copy import deepcopy

from nudgewebs.fillings import is_filling, run, step
from tests import samples
from tests.samples import BARE, CHAIN, FULL, LEAST, LONG, LOOP, ODD_VALUES, PAIR, SAMPLES, STAR, TWINS, all_lines
from tests.samples import filled, mixed_filling, mixed_web, nested, numbers_from, small_webs

GREATEST = 10 ** 6
GREAT = 10 ** 30 - 1
RIGHT = [1, -1, 2, -2, 999999, -999999, GREATEST, -GREATEST]
WRONG = [0, GREATEST + 1, -GREATEST - 1, 10 ** 29, -10 ** 29, True, False, None, "1", b"1", [1], (1,), {}, []]


class IsFilling(unittest.TestCase):
    def assert_filling(self, web, value, right):
        before = deepcopy(value)
        self.assertIs(is_filling(web, value), right, (web, value))
        self.assertEqual(value, before)

    def test_right_numbers(self):
        for web in SAMPLES:
            many = len(all_lines(web))
            for number in RIGHT:
                self.assert_filling(web, filled(web, [number] * many), True)
            self.assert_filling(web, filled(web, (RIGHT * many)[:many]), True)

    def test_wrong_numbers_at_each_place(self):
        for web in [STAR, CHAIN, PAIR, TWINS, LOOP, (1, [], [[0]])]:
            many = len(all_lines(web))
            for at in range(many):
                for wrong in WRONG:
                    self.assert_filling(web, filled(web, [3] * at + [wrong] + [3] * (many - at - 1)), False)

    def test_wrong_numbers_in_the_greatest_web(self):
        for at in range(0, 560, 43):
            for wrong in WRONG:
                self.assert_filling(FULL, filled(FULL, [3] * at + [wrong] + [3] * (559 - at)), False)

    def test_no_lines(self):
        for web in [LEAST, BARE]:
            self.assert_filling(web, ([], []), True)
            for wrong in [([1], []), ([], [[]]), ([], [[1]]), ((), []), ([], ()), [[], []], ([],), ([], [], [])]:
                self.assert_filling(web, wrong, False)
        self.assert_filling((1, [], [[0]]), ([], [[5]]), True)
        self.assert_filling(LOOP, ([5], []), True)

    def test_a_number_too_many_or_lacking(self):
        for web in [STAR, PAIR, TWINS, LONG, FULL, LEAST]:
            numbers, strengths = filled(web, [7] * len(all_lines(web)))
            self.assert_filling(web, (numbers, strengths), True)
            self.assert_filling(web, (numbers + [7], strengths), False)
            self.assert_filling(web, (numbers, strengths + [[7]]), False)
            self.assert_filling(web, (numbers, strengths + [[]]), False)
            if numbers:
                self.assert_filling(web, (numbers[1:], strengths), False)
            for at in range(len(strengths)):
                ahead, row, behind = strengths[:at], strengths[at], strengths[at + 1:]
                for wrong in [row + [7], row[1:], []]:
                    self.assert_filling(web, (numbers, ahead + [wrong] + behind), False)
                self.assert_filling(web, (numbers, ahead + behind), False)

    def test_the_rows_of_two_nudges_exchanged(self):
        web = (3, [], [[0], [0, 2], [1]])
        self.assert_filling(web, ([], [[1], [1, 1], [1]]), True)
        for wrong in [[[1, 1], [1], [1]], [[1], [1], [1, 1]], [[1], [1, 1, 1]], [[1, 1, 1], [], [1]]]:
            self.assert_filling(web, ([], wrong), False)

    def test_tuples_and_lists_exchanged(self):
        numbers, strengths = [4, -4], [[7]]
        for wrong in [[numbers, strengths], (tuple(numbers), strengths), (numbers, tuple(strengths)),
                      (numbers, [(7,)]), ((4, -4), ((7,),)), [(4, -4), [(7,)]], (strengths, numbers),
                      {0: numbers, 1: strengths}, (numbers, {0: [7]}), ({0: 4, 1: -4}, strengths), ([numbers], strengths)]:
            self.assert_filling(STAR, wrong, False)

    def test_any_other_values(self):
        for web in SAMPLES:
            for value in ODD_VALUES:
                self.assert_filling(web, value, False)
                self.assert_filling(web, ([], value), False)
                # A list of one number is right for a web of one pair.
                if web != LOOP:
                    self.assert_filling(web, (value, []), False)
                    self.assert_filling(web, (value, value), False)
        for levels in range(19):
            for as_tuple in [False, True]:
                value = nested(5, levels, as_tuple)
                self.assert_filling(LOOP, ([value], []), levels == 0)
                self.assert_filling(STAR, ([4, -4], [[value]]), levels == 0)


class Steps(unittest.TestCase):
    def assert_run(self, web, filling, state, rows):
        """A run is what the steps of point 7 make of the state, one behind the other."""
        states = [list(state)]
        for given in rows:
            states.append(samples.step(web, filling, states[-1], given))
        self.assertEqual(run(web, filling, state, rows), states)
        for before, given, behind in zip(states, rows, states[1:]):
            self.assertEqual(step(web, filling, before, given), behind)

    def test_the_sum_over_all_lines(self):
        web = (3, [(0, 0), (0, 1), (1, 0), (2, 1)], [[0, 1], [1]])
        filling = ([2, 3, 5, 7], [[11, 13], [-17]])
        self.assertEqual(step(web, filling, [1, 10, 100], [1000, 10000]),
                         [2 + 50 + 11000, 3 + 700 + 13000 - 170000, 0])
        self.assertEqual(step(web, filling, [0, 0, 0], [0, 0]), [0, 0, 0])
        self.assertEqual(step(web, filling, [0, 0, 1], [0, 0]), [0, 7, 0])
        self.assertEqual(step(web, filling, [-1, 1, 0], [0, 1]), [3, -20, 0])

    def test_a_quantity_is_not_kept_by_itself(self):
        self.assertEqual(step((2, [], [[0]]), ([], [[3]]), [5, 6], [0]), [0, 0])
        self.assertEqual(step((2, [(0, 0)], [[0]]), ([1], [[3]]), [5, 6], [7]), [26, 0])

    def test_no_nudges(self):
        self.assertEqual(step(PAIR, ([2, 3, 5], []), [1, 10, 100], []), [30, 2, 50])
        self.assertEqual(run(PAIR, ([2, 3, 5], []), [1, 10, 100], [[], []]), [[1, 10, 100], [30, 2, 50], [6, 60, 10]])
        self.assertEqual(step(LEAST, ([], []), [4], []), [0])
        self.assertEqual(run(BARE, ([], []), [1] * 20, [[]] * 60), [[1] * 20] + [[0] * 20] * 60)

    def test_no_rows(self):
        for web in SAMPLES:
            state = [at * at - 7 for at in range(web[0])]
            self.assertEqual(run(web, filled(web, [1] * 560), state, []), [state])

    def test_sixty_rows(self):
        states = run(LONG, ([1] * 19, [[1]]), [0] * 20, [[at] for at in range(60)])
        self.assertEqual(len(states), 61)
        self.assertEqual(states[-1], list(range(59, 39, -1)))
        self.assertEqual(states[3], [2, 1] + [0] * 18)
        self.assertEqual(run(LOOP, ([2], []), [GREAT], [[]] * 60)[-1], [GREAT * 2 ** 60])
        self.assert_run(LOOP, ([-GREATEST], []), [-GREAT], [[]] * 60)

    def test_the_greatest_numbers(self):
        numbers = numbers_from(53)
        rows = [[(-1) ** at * GREAT - at for at in range(8)] for _ in range(60)]
        for filling in [filled(FULL, [-GREATEST] * 560), mixed_filling(numbers, FULL, GREATEST)]:
            self.assert_run(FULL, filling, [GREAT - at for at in range(20)], rows)

    def test_small_webs(self):
        numbers = numbers_from(59)
        for web in [*small_webs(1, 2, 9), *small_webs(2, 2, 9), *SAMPLES]:
            state = [next(numbers) % 100 - 50 for _ in range(web[0])]
            rows = [[next(numbers) % 100 - 50 for _ in web[2]] for _ in range(4)]
            self.assert_run(web, mixed_filling(numbers, web, 9), state, rows)

    def test_mixed_webs(self):
        numbers = numbers_from(61)
        for count in range(3, 21):
            web = mixed_web(numbers, count, 3, 8)
            state = [next(numbers) - 2 ** 30 for _ in range(count)]
            rows = [[next(numbers) - 2 ** 30 for _ in web[2]] for _ in range(next(numbers) % 61)]
            self.assert_run(web, mixed_filling(numbers, web, GREATEST), state, rows)


if __name__ == "__main__":
    unittest.main()
