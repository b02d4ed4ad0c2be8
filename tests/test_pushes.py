"""Point 20: pushes that lead to a state, and whether any value shows such pushes."""

import unittest
from copy import deepcopy

from nudgewebs.fillings import is_reached, pushes_to, run, shows_pushes
from tests import samples
from tests.samples import BARE, CHAIN, FULL, LEAST, LONG, LOOP, ODD_VALUES, PAIR, SAMPLES, STAR, dimension, filled
from tests.samples import mixed_filling, mixed_web, nested, numbers_from, reached_states, small_webs

GREAT = 10 ** 30 - 1
SOME = ([1, -1], [[1]])


def led_to(web, filling, rows):
    """The state to which rows of pushes lead from the state of all 0, by point 7."""
    state = [0] * web[0]
    for given in rows:
        state = samples.step(web, filling, state, given)
    return state


def cases():
    """Webs, fillings and states, of which about a half are in the reach."""
    numbers = numbers_from(89)
    webs = [*small_webs(1, 2, 9), *small_webs(2, 2, 7), *SAMPLES[:-3], SAMPLES[-1]]
    webs += [mixed_web(numbers, 3 + at % 6, 2 + at % 4, 1 + at % 4) for at in range(200)]
    for web in webs:
        for greatest in [1, 9]:
            filling = mixed_filling(numbers, web, greatest)
            states = reached_states(web, filling) or [[0] * web[0]]
            reached = [sum((next(numbers) % 5 - 2) * number for number in row) for row in zip(*states)]
            yield web, filling, reached
            yield web, filling, [next(numbers) % 9 - 4 for _ in range(web[0])]


class PushesTo(unittest.TestCase):
    def assert_led(self, web, filling, state):
        times, rows = pushes_to(web, filling, state)
        self.assertGreaterEqual(times, 1)
        self.assertEqual([len(row) for row in rows], [len(web[2])] * web[0])
        wanted = [times * number for number in state]
        self.assertEqual(led_to(web, filling, rows), wanted, (web, filling, state))
        self.assertEqual(run(web, filling, [0] * web[0], rows)[-1], wanted)
        self.assertIs(shows_pushes(web, filling, state, (times, rows)), True)
        return times, rows

    def test_examples(self):
        self.assertEqual(pushes_to(CHAIN, ([1, 1], [[1]]), [7, 8, 9]), (1, [[9], [8], [7]]))
        self.assert_led(STAR, SOME, [5, 3, -3])
        self.assertIsNone(pushes_to(STAR, SOME, [5, 3, 3]))

    def test_multiples_that_are_needed(self):
        for state in [[1, 0, 0], [0, 1, 0], [0, 0, 1], [1, 1, 1], [-1, 0, 7], [2, 10, -70]]:
            self.assert_led(CHAIN, ([5, -7], [[2]]), state)
        times, _ = self.assert_led((1, [], [[0]]), ([], [[6]]), [4])
        self.assertEqual(times * 4 // 6 * 6, times * 4)

    def test_the_state_of_all_0(self):
        for web in SAMPLES:
            filling = filled(web, [2] * 560)
            self.assert_led(web, filling, [0] * web[0])
        self.assertIsNotNone(pushes_to(BARE, ([], []), [0] * 20))
        self.assert_led(LEAST, ([], []), [0])

    def test_no_nudges(self):
        for web in [LEAST, LOOP, PAIR, BARE]:
            filling = filled(web, [3] * 10)
            times, rows = self.assert_led(web, filling, [0] * web[0])
            self.assertEqual(rows, [[]] * web[0])
            self.assertIsNone(pushes_to(web, filling, [0] * (web[0] - 1) + [GREAT]))
            self.assertIsNone(pushes_to(web, filling, [-1] * web[0]))

    def test_just_the_states_of_the_reach(self):
        found = {True: 0, False: 0}
        for web, filling, state in cases():
            states = reached_states(web, filling)
            right = dimension(states + [state]) == dimension(states)
            found[right] += 1
            self.assertIs(is_reached(web, filling, state), right)
            if right:
                self.assert_led(web, filling, state)
            else:
                self.assertIsNone(pushes_to(web, filling, state))
        self.assertGreater(min(found.values()), 200)

    def test_states_of_thirty_digits(self):
        for web, filling in [(CHAIN, ([-10 ** 6, 10 ** 6 - 1], [[10 ** 6]])), (LONG, filled(LONG, [10 ** 6] * 20))]:
            self.assert_led(web, filling, [GREAT - at if at % 2 else at - GREAT for at in range(web[0])])

    def test_the_greatest_webs(self):
        numbers = numbers_from(97)
        state = [GREAT - at * at for at in range(20)]
        for many in [1, 2, 8]:
            web = (20, FULL[1], FULL[2][:many])
            filling = mixed_filling(numbers, web, 10 ** 6)
            self.assert_led(web, filling, state)
            self.assert_led(web, filling, [0] * 19 + [1])
            self.assert_led(web, filling, [0] * 20)
            same = filled(web, [10 ** 6] * 560)
            self.assertIsNone(pushes_to(web, same, state))
            self.assert_led(web, same, [GREAT] * 20)

    def test_what_is_returned_may_be_passed_back(self):
        web = (20, FULL[1], FULL[2][:1])
        filling = mixed_filling(numbers_from(101), web, 10 ** 6)
        times, rows = self.assert_led(web, filling, [1] + [0] * 19)
        reached = run(web, filling, [0] * 20, rows)[-1]
        self.assertIs(is_reached(web, filling, reached), True)
        self.assert_led(web, filling, reached)
        self.assertIs(shows_pushes(web, filling, reached, (1, rows)), True)
        self.assertIs(shows_pushes(web, filling, reached, (times, rows)), False)


class ShowsPushes(unittest.TestCase):
    def assert_shown(self, web, filling, state, value, right):
        before = deepcopy(value)
        self.assertIs(shows_pushes(web, filling, state, value), right, (web, filling, state, value))
        self.assertEqual(value, before)

    def test_one_number_changed(self):
        for web, filling, state in cases():
            found = pushes_to(web, filling, state)
            if found and web[0] < 20:
                times, rows = found
                self.assert_shown(web, filling, state, (times + 1, rows), not any(state))
                for at in range(len(rows)):
                    for nudge in range(len(web[2])):
                        other = deepcopy(rows)
                        other[at][nudge] += 1
                        right = led_to(web, filling, other) == [times * number for number in state]
                        self.assert_shown(web, filling, state, (times, other), right)

    def test_any_number_of_rows(self):
        state = [3, 1, -1]
        self.assert_shown(STAR, SOME, state, (1, [[1], [3]]), True)
        self.assert_shown(STAR, SOME, state, (1, [[9], [1], [3]]), True)
        self.assert_shown(STAR, SOME, state, (1, [[3]]), False)
        self.assert_shown(STAR, SOME, state, (1, [[3], [1]]), False)
        self.assert_shown(STAR, SOME, state, (2, [[2], [6]]), True)
        self.assert_shown(STAR, SOME, state, (2, [[1], [3]]), False)
        self.assert_shown(STAR, SOME, state, (1, [[2], [6]]), False)

    def test_0_rows_and_60_and_61(self):
        for web in SAMPLES:
            filling, zero = filled(web, [2] * 560), [0] * web[0]
            for times in [1, 2, GREAT]:
                self.assert_shown(web, filling, zero, (times, []), True)
                self.assert_shown(web, filling, zero[1:] + [1], (times, []), False)
            still = [0] * len(web[2])
            self.assert_shown(web, filling, zero, (1, [still] * 60), True)
            self.assert_shown(web, filling, zero, (1, [still] * 61), False)
        state = [3, 1, -1]
        for many, right in [(0, True), (57, True), (58, True), (59, False), (418, False)]:
            self.assert_shown(STAR, SOME, state, (1, [[7]] * many + [[1], [3]]), right)

    def test_times(self):
        state, rows = [3, 1, -1], [[1], [3]]
        for times in [0, -1, True, False, None, "1", b"1", [1], (1,), -GREAT, {}]:
            self.assert_shown(STAR, SOME, state, (times, rows), False)
            self.assert_shown(STAR, SOME, [0, 0, 0], (times, [[0], [0]]), False)
            self.assert_shown(STAR, SOME, [0, 0, 0], (times, []), False)
        self.assert_shown(STAR, SOME, [-3, -1, 1], (-1, rows), False)
        self.assert_shown(STAR, SOME, state, (GREAT, [[GREAT], [3 * GREAT]]), True)

    def test_rows_that_are_none(self):
        state = [3, 1, -1]
        for rows in [([1], [3]), [(1,), (3,)], [[1], (3,)], [[1], [3], []], [[], [1], [3]], [[1, 1], [3, 3]], [1, 3],
                     [[[1]], [[3]]], [[True], [3]], [["1"], [3]], [[None], [1], [3]], {0: [1], 1: [3]}, None, "13", 3,
                     [[1], [3], None], [[1], {0: 3}], [[0, 0], [1], [3]]]:
            self.assert_shown(STAR, SOME, state, (1, rows), False)
            self.assert_shown(STAR, SOME, [0, 0, 0], (1, rows), False)

    def test_other_values(self):
        rows = [[1], [3]]
        for value in [[1, rows], (rows, 1), (1, rows, 0), (1,), (rows,), (1, 1, rows), 1, rows, {1: rows}, (1, (rows,)),
                      (1, [rows]), None, "13", ((1, rows),), [(1, rows)]]:
            self.assert_shown(STAR, SOME, [3, 1, -1], value, False)
        for web in SAMPLES:
            filling = filled(web, [2] * 560)
            for value in ODD_VALUES:
                for state in [[0] * web[0], [1] * web[0]]:
                    # One of these values is a tuple of an integer and of no rows.
                    self.assert_shown(web, filling, state, value, value == (3, []) and not any(state))
                    self.assert_shown(web, filling, state, (1, [value]), False)
                    great = type(value) is int and value > 0
                    self.assert_shown(web, filling, state, (value, []), great and not any(state))
        for levels in range(1, 19):
            for as_tuple in [False, True]:
                self.assert_shown(STAR, SOME, [3, 1, -1], (1, [[1], [nested(3, levels, as_tuple)]]), False)

    def test_no_nudges(self):
        self.assert_shown(PAIR, ([1, 2, 3], []), [0, 0, 0], (5, [[], []]), True)
        self.assert_shown(PAIR, ([1, 2, 3], []), [0, 0, 1], (5, [[], []]), False)
        self.assert_shown(PAIR, ([1, 2, 3], []), [0, 0, 0], (5, [[], [0]]), False)


if __name__ == "__main__":
    unittest.main()
