"""Points 6, 8, 9 and 11: `reaches_every` beside the dimensions that fillings reach."""

import unittest
from itertools import product

from nudgewebs.every import left_open, reaches_every
from tests.samples import CHAIN, FULL, KINDS, SAMPLES, STAR, STUCK, all_lines, filled, mixed_filling, mixed_web
from tests.samples import numbers_from, reach_dimension, small_webs, step

NUMBERS = [-2, -1, 1, 2]


def all_reach_all(web):
    """Whether all fillings of these few numbers reach all states."""
    # Each fort is shown by some filling of these numbers, for they sum up to 0 for two lines
    # and more, and to 1 for one line and more.
    fillings = product(NUMBERS, repeat=len(all_lines(web)))
    return all(reach_dimension(web, filled(web, numbers)) == web[0] for numbers in fillings)


def numbers_with_sum(many, wanted):
    """So many numbers, none of them 0, with this sum; for one number the sum is not 0."""
    numbers = [1] * (many - 1) + [wanted - many + 1]
    if numbers[-1:] == [0]:
        numbers[0], numbers[-1] = 2, -1
    return numbers[:many]


def showing(web, kind, fort):
    """The numbers of a filling that shows a fort [11], one for each line."""
    numbers = []
    for source in range(web[0] + len(web[2])):
        targets = [target for start, target in all_lines(web) if start == source]
        wanted = int(kind == "steady" and source in fort)
        inside = numbers_with_sum(len([target for target in targets if target in fort]), wanted)
        numbers += [inside.pop(0) if target in fort else 3 for target in targets]
    return numbers


def backward_web(numbers, count):
    """A chain behind a nudge, with mixed pairs that do not lead further than one on: it has no fort."""
    pairs = [(at, at + 1) for at in range(count - 1)]
    pairs += [(a, b) for a in range(count) for b in range(a + 1) if next(numbers) % 3 == 0]
    return (count, sorted(pairs), [[0]] + [list(range(count))] * (next(numbers) % 8))


class Fillings(unittest.TestCase):
    def test_the_star_and_the_chain(self):
        self.assertEqual([reach_dimension(STAR, ([1, -1], [[1]])), reach_dimension(CHAIN, ([5, -7], [[2]]))], [2, 3])

    def assert_all(self, webs):
        found = {True: 0, False: 0}
        for web in webs:
            right = all_reach_all(web)
            self.assertIs(reaches_every(web), right, web)
            found[right] += 1
        self.assertTrue(found[True] > 0 and found[False] > 0, found)

    def test_all_webs_of_one_quantity(self):
        self.assert_all(small_webs(1, 3, 4))

    def test_all_webs_of_two_quantities(self):
        self.assert_all(small_webs(2, 2, 6))

    def test_all_webs_of_three_quantities(self):
        self.assert_all(small_webs(3, 2, 5))

    def test_true_just_if_nothing_is_left_open(self):
        for web in [*SAMPLES, *small_webs(2, 2, 8), *small_webs(3, 1, 6)]:
            self.assertIs(reaches_every(web), [left_open(web, kind) for kind in KINDS] == [[], []])


class Forts(unittest.TestCase):
    """What is left open is a fort: some filling shows it, so it does not reach all states."""

    def assert_shown(self, web):
        for kind in KINDS:
            fort = left_open(web, kind)
            if fort:
                self.assertIs(reaches_every(web), False)
                filling = filled(web, showing(web, kind, fort))
                self.assertNotIn(0, filling[0] + [number for one in filling[1] for number in one])
                self.assertLess(reach_dimension(web, filling), web[0], (web, kind))
                state = [at * at - 3 for at in range(web[0])]
                new = step(web, filling, state, [7 - at for at in range(len(web[2]))])
                wanted = sum(state[at] for at in fort) if kind == "steady" else 0
                self.assertEqual(sum(new[at] for at in fort), wanted)

    def test_small_webs(self):
        for web in [STAR, STUCK, *small_webs(2, 2, 8), *small_webs(3, 1, 5)]:
            self.assert_shown(web)

    def test_mixed_webs(self):
        numbers = numbers_from(23)
        for count in range(4, 12):
            for chance in [2, 4, 8]:
                for _ in range(5):
                    self.assert_shown(mixed_web(numbers, count, chance, 2))

    def test_the_greatest_web(self):
        self.assert_shown((20, FULL[1], FULL[2][:1]))


class NoForts(unittest.TestCase):
    """Where nothing is left open, fillings reach all states, whatever numbers they have."""

    def test_webs_of_up_to_twenty_quantities(self):
        numbers = numbers_from(41)
        for count in range(1, 21):
            web = backward_web(numbers, count)
            self.assertIs(reaches_every(web), True)
            one = (count, web[1], web[2][:1])
            for _ in range(2):
                self.assertEqual(reach_dimension(one, mixed_filling(numbers, one, 9)), count)

    def test_mixed_webs(self):
        numbers, found = numbers_from(29), 0
        for at in range(400):
            web = mixed_web(numbers, 3 + at % 4, 3 + at % 2, 4)
            if reaches_every(web):
                found += 1
                for _ in range(5):
                    self.assertEqual(reach_dimension(web, mixed_filling(numbers, web, 3)), web[0])
        self.assertGreater(found, 10)


if __name__ == "__main__":
    unittest.main()
