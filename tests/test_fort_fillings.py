"""Points 6, 11 and 19: fillings that show a fort."""

import unittest
from itertools import product

from nudgewebs.every import left_open
from nudgewebs.fillings import is_filling, reach_dimension, run, step
from nudgewebs.forts import fort_filling, is_fort, shows_fort
from tests import samples
from tests.samples import BARE, FULL, KINDS, LONG, LOOP, PAIR, STAR, STUCK, TWINS, all_lines, filled, mixed_filling
from tests.samples import mixed_numbers, mixed_web, numbers_from, small_webs, subsets

EVERY = list(range(20))
# The quantities of even numbers act on themselves, and three of them also on the one behind.
SELVES = (20, sorted([(at, at) for at in range(0, 20, 2)] + [(at, at + 1) for at in (4, 8, 12)]), [[1, 3], [5]])


def forts_of(web):
    """All tuples of a kind and a fort of a small web."""
    some = [one for one in subsets(range(web[0]), web[0]) if one]
    return [(kind, fort) for kind in KINDS for fort in some if samples.is_fort(web, kind, fort)]


def small_forts():
    webs = [*small_webs(1, 2, 9), *small_webs(2, 2, 9), *small_webs(3, 1, 5), STAR, PAIR, STUCK, TWINS]
    return [(web, kind, fort) for web in webs for kind, fort in forts_of(web)]


def great_forts():
    """Forts of great webs, of one, two and twenty quantities and others."""
    found = [(FULL, kind, fort) for kind in KINDS for fort in [[0, 1], [3, 17], [5, 6, 7], EVERY[1:], EVERY]]
    found += [(SELVES, "steady", [at]) for at in range(0, 20, 2)] + [(SELVES, "steady", [0, 4, 8, 12, 14])]
    found += [(BARE, "still", fort) for fort in [[0], [19], [2, 5], EVERY]]
    ring = (20, LONG[1] + [(19, 0)], [])
    found += [(ring, "steady", EVERY), ((20, FULL[1], []), "still", [8, 9]), ((20, FULL[1], []), "steady", EVERY)]
    numbers = numbers_from(37)
    for at in range(30):
        web = mixed_web(numbers, 12 + at % 9, 2 + at % 4, 8)
        found += [(web, kind, left_open(web, kind)) for kind in KINDS if left_open(web, kind)]
    return found


def changed(web, at, filling, number):
    """The filling with another number for one of the lines."""
    numbers = filling[0] + [one for row in filling[1] for one in row]
    return filled(web, numbers[:at] + [number] + numbers[at + 1:])


class FortFilling(unittest.TestCase):
    def assert_shown(self, web, kind, fort):
        self.assertTrue(is_fort(web, kind, fort))
        filling = fort_filling(web, kind, fort)
        self.assertIs(is_filling(web, filling), True, (web, kind, fort))
        numbers = filling[0] + [number for row in filling[1] for number in row]
        self.assertEqual(len(numbers), len(all_lines(web)))
        self.assertTrue(all(number and abs(number) <= 10 ** 6 for number in numbers))
        self.assertTrue(samples.shows_fort(web, kind, fort, filling), (web, kind, fort, filling))
        self.assertIs(shows_fort(web, kind, fort, filling), True)
        return filling

    def assert_sum_is_kept(self, web, kind, fort, filling):
        """Whatever the pushes are; so not all states are reached."""
        state = [at ** 3 - 10 ** 29 + 5 for at in range(web[0])]
        rows = [[7 ** at - 10 ** 29 * row for at in range(len(web[2]))] for row in range(4)]
        sums = [sum(one[at] for at in fort) for one in run(web, filling, state, rows)]
        self.assertEqual(sums, [sums[0]] * 5 if kind == "steady" else [sums[0], 0, 0, 0, 0])
        self.assertEqual(sum(step(web, filling, [0] * web[0], rows[1])[at] for at in fort), 0)
        self.assertLess(reach_dimension(web, filling), web[0])

    def test_each_fort_of_small_webs(self):
        forts = small_forts()
        self.assertEqual({(kind, len(fort)) for _, kind, fort in forts},
                         {(kind, many) for kind in KINDS for many in (1, 2, 3)})
        for web, kind, fort in forts:
            self.assert_sum_is_kept(web, kind, fort, self.assert_shown(web, kind, fort))

    def test_forts_of_great_webs(self):
        for web, kind, fort in great_forts():
            filling = self.assert_shown(web, kind, fort)
            self.assert_sum_is_kept(web, kind, fort, filling)

    def test_forts_of_one_quantity(self):
        self.assertEqual(fort_filling(LOOP, "steady", [0]), ([1], []))
        self.assertEqual(fort_filling((1, [], []), "still", [0]), ([], []))

    def test_each_number_of_targets(self):
        for many in range(2, 21):
            web = (20, [(0, at) for at in range(many)], [list(range(many))])
            self.assert_shown(web, "still", list(range(many)))
            web = (20, [(at, other) for at in range(many) for other in range(many)], [list(range(many)), [19]])
            if many < 20:
                self.assert_shown(web, "steady", list(range(many)))


class ShowsFort(unittest.TestCase):
    def test_the_star(self):
        for filling, right in [(([4, -4], [[7]]), True), (([-1, 1], [[-7]]), True), (([4, -3], [[7]]), False),
                               (([4, 4], [[7]]), False), (([10 ** 6, -10 ** 6], [[1]]), True)]:
            self.assertIs(shows_fort(STAR, "still", [1, 2], filling), right)

    def test_the_kind_steady(self):
        for filling, right in [(([1, 1, 5], []), True), (([1, 2, 5], []), False), (([1, -1, 5], []), False),
                               (([2, 1, 5], []), False), (([1, 1, -10 ** 6], []), True)]:
            self.assertIs(shows_fort(PAIR, "steady", [0, 1], filling), right)

    def test_all_fillings_of_few_numbers(self):
        for web, kind, fort in small_forts():
            if len(all_lines(web)) <= 4:
                for numbers in product([-2, -1, 1, 2], repeat=len(all_lines(web))):
                    filling = filled(web, numbers)
                    wanted = samples.shows_fort(web, kind, fort, filling)
                    self.assertIs(shows_fort(web, kind, fort, filling), wanted, (web, kind, fort, filling))

    def test_one_number_changed(self):
        for web, kind, fort in small_forts() + great_forts():
            filling = fort_filling(web, kind, fort)
            lines = all_lines(web)
            for at in sorted({0, len(lines) // 3, len(lines) // 2, len(lines) - 1} & set(range(len(lines)))):
                for number in [3, -1000, 10 ** 6]:
                    other = changed(web, at, filling, number)
                    same = lines[at][1] not in fort or other == filling
                    self.assertIs(shows_fort(web, kind, fort, other), same, (web, kind, fort, other))

    def test_all_numbers_times_three(self):
        for web, kind, fort in small_forts():
            filling = fort_filling(web, kind, fort)
            tripled = ([3 * one for one in filling[0]], [[3 * one for one in row] for row in filling[1]])
            self.assertIs(shows_fort(web, kind, fort, tripled), kind == "still")

    def test_mixed_fillings(self):
        numbers, found = numbers_from(43), {True: 0, False: 0}
        for web, kind, fort in great_forts():
            for filling in [mixed_filling(numbers, web, 10 ** 6), mixed_filling(numbers, web, 1)]:
                right = samples.shows_fort(web, kind, fort, filling)
                found[right] += 1
                self.assertIs(shows_fort(web, kind, fort, filling), right)
        self.assertGreater(min(found.values()), 3)

    def test_a_fort_is_shown_by_other_numbers_than_those_of_the_package(self):
        numbers = numbers_from(47)
        for kind in KINDS:
            for fort in [[2, 11], [1, 4, 9], EVERY]:
                filling = mixed_filling(numbers, FULL, 10 ** 4)
                wanted = [int(kind == "steady" and source in fort) for source in range(28)]
                rows = [filling[0][20 * at:20 * at + 20] for at in range(20)] + filling[1]
                for row, aim in zip(rows, wanted):
                    row[fort[-1]] += aim - sum(row[at] for at in fort)
                full = filled(FULL, [number for row in rows for number in row])
                self.assertIs(is_filling(FULL, full), True)
                self.assertIs(shows_fort(FULL, kind, fort, full), True)
                row = mixed_numbers(numbers, 20, 50)
                self.assertIs(shows_fort(FULL, kind, fort, (full[0], full[1][:-1] + [row])),
                              sum(row[at] for at in fort) == 0)


if __name__ == "__main__":
    unittest.main()
