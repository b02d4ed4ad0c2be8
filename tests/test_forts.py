"""Points 10, 18 and 19: what a fort is, and the forts that contain no other one."""

import unittest
from itertools import combinations, product

from nudgewebs.errors import InvalidKind, InvalidWeb, TooLarge
from nudgewebs.every import left_open
from nudgewebs.forts import is_fort, least_forts
from tests import samples
from tests.samples import BARE, CHAIN, FULL, KINDS, LEAST, LOOP, ODD_VALUES, PAIR, SAMPLES, STAR, STUCK, TWINS
from tests.samples import mixed_web, nested, numbers_from, small_webs, subsets

# The quantity 0 acts on itself and on nothing else, and nothing else acts on it.
ALONE = (3, [(0, 0), (1, 2)], [[1]])
FULL_TEN = (10, [(a, b) for a in range(10) for b in range(10)], [list(range(10))] * 8)


def some_webs():
    """All webs of one or two quantities with up to two nudges, and mixed webs of up to six."""
    numbers = numbers_from(13)
    webs = [*small_webs(1, 2, 9), *small_webs(2, 2, 9), ALONE]
    return webs + [mixed_web(numbers, 3 + at % 4, 2 + at % 3, 3) for at in range(200)]


def all_forts(web, kind):
    return [fort for fort in subsets(range(web[0]), web[0]) if samples.is_fort(web, kind, fort)]


def least_of(forts):
    return sorted(fort for fort in forts if not any(set(other) < set(fort) for other in forts))


class IsFort(unittest.TestCase):
    def assert_forts(self, web, kind, forts):
        """Just these lists of quantities are forts."""
        for some in subsets(range(web[0]), web[0]):
            self.assertIs(is_fort(web, kind, some), some in forts, (web, kind, some))

    def test_the_kind_still(self):
        self.assert_forts(STAR, "still", [[1, 2]])
        self.assert_forts(CHAIN, "still", [])
        self.assert_forts(PAIR, "still", [[0, 2]])
        self.assert_forts(LEAST, "still", [[0]])
        self.assert_forts(LOOP, "still", [])
        self.assert_forts(STUCK, "still", [[0, 1]])
        self.assert_forts(TWINS, "still", [])

    def test_the_kind_steady(self):
        self.assert_forts(STAR, "steady", [])
        self.assert_forts(CHAIN, "steady", [])
        self.assert_forts(PAIR, "steady", [[0, 1]])
        self.assert_forts(LEAST, "steady", [])
        self.assert_forts(STUCK, "steady", [[0, 1]])
        self.assert_forts(TWINS, "steady", [])

    def test_a_source_with_just_one_aim_in_the_list(self):
        web = (3, [(0, 1), (0, 2), (1, 1), (1, 2)], [[0, 1, 2]])
        self.assert_forts(web, "still", [[0, 1, 2], [1, 2]])
        self.assert_forts((3, web[1] + [(2, 2)], web[2]), "still", [])
        self.assert_forts((3, web[1], [[0, 1, 2], [2]]), "still", [])

    def test_a_quantity_that_acts_on_itself_as_its_only_aim(self):
        self.assert_forts(LOOP, "steady", [[0]])
        self.assert_forts((1, [(0, 0)], [[0]]), "steady", [])
        self.assert_forts(ALONE, "steady", [[0]])
        self.assert_forts(ALONE, "still", [])
        # It has another quantity as its only aim: that is excepted for neither kind.
        two = (2, [(0, 0), (0, 1)], [])
        self.assert_forts(two, "steady", [[0]])
        self.assert_forts(two, "still", [[0, 1]])
        # A quantity that does not act on itself is the only aim of its own.
        self.assert_forts((2, [(0, 0)], []), "steady", [[0]])

    def test_nudges_are_sources(self):
        pairs = [(0, 0), (0, 1), (1, 0), (1, 1)]
        for kind in KINDS:
            self.assert_forts((2, pairs, []), kind, [[0, 1]])
            self.assert_forts((2, pairs, [[0, 1]] * 8), kind, [[0, 1]])
            self.assert_forts((2, pairs, [[0, 1]] * 7 + [[1]]), kind, [])

    def test_all_lists_of_small_webs(self):
        for web in [*small_webs(1, 2, 9), *small_webs(2, 1, 9), ALONE, STAR, PAIR]:
            for many in range(web[0] + 2):
                for some in product(range(-1, web[0] + 1), repeat=many):
                    value = list(some)
                    right = value == sorted(set(value) & set(range(web[0])))
                    for kind in KINDS:
                        wanted = right and samples.is_fort(web, kind, value)
                        self.assertIs(is_fort(web, kind, value), wanted, (web, kind, value))

    def test_all_quantities_of_some_webs(self):
        for web in some_webs():
            for kind in KINDS:
                self.assert_forts(web, kind, all_forts(web, kind))

    def test_values_that_are_no_forts(self):
        odd = ODD_VALUES + [[], (), (1, 2), [1, 2, 2], [2, 1], [1, 1], [True, 2], [1, True], [1, 2, 3], [-1, 1], [1, 20],
                            [[1], [2]], {1: 2}, {1, 2}, "12", b"\x01\x02", [1, None], [1, "2"], [1, [2]], [[1, 2]],
                            range(1, 3), 12, [1, 10 ** 29]]
        for value in odd:
            for web in [STAR, (3, [], [])]:
                self.assertIs(is_fort(web, "still", value), False, value)
            self.assertIs(is_fort((3, [(0, 0), (1, 1), (2, 2)], []), "steady", value), False)
        for levels in range(1, 21):
            for as_tuple in [False, True]:
                for web in SAMPLES:
                    for kind in KINDS:
                        self.assertIs(is_fort(web, kind, nested([1, 2], levels, as_tuple)), False)

    def test_the_greatest_web(self):
        for kind in KINDS:
            for fort in [[0, 1], [18, 19], [3, 7, 11], list(range(20)), list(range(19))]:
                self.assertIs(is_fort(FULL, kind, fort), True)
            for fort in [[0], [19], list(range(21)), list(range(-1, 19)), []]:
                self.assertIs(is_fort(FULL, kind, fort), False)
        for quantity in range(20):
            self.assertIs(is_fort(BARE, "still", [quantity]), True)
            self.assertIs(is_fort(BARE, "steady", [quantity]), False)


class AllForts(unittest.TestCase):
    def test_all_quantities_of_two_forts_are_a_fort(self):
        found = 0
        for web in some_webs():
            for kind in KINDS:
                for fort, other in combinations(all_forts(web, kind), 2):
                    found += 1
                    self.assertIs(is_fort(web, kind, sorted({*fort, *other})), True)
        self.assertGreater(found, 1000)

    def test_what_is_left_open_is_the_greatest_fort(self):
        for web in some_webs() + [STAR, CHAIN, PAIR, TWINS]:
            for kind in KINDS:
                greatest = left_open(web, kind)
                self.assertIs(is_fort(web, kind, greatest), greatest != [])
                for some in subsets(range(web[0]), web[0]):
                    if is_fort(web, kind, some):
                        self.assertLessEqual(set(some), set(greatest))


class LeastForts(unittest.TestCase):
    def test_examples(self):
        self.assertEqual([least_forts(web, "still") for web in [STAR, CHAIN, PAIR, LEAST, LOOP, STUCK, ALONE]],
                         [[[1, 2]], [], [[0, 2]], [[0]], [], [[0, 1]], []])
        self.assertEqual([least_forts(web, "steady") for web in [STAR, CHAIN, PAIR, LEAST, LOOP, STUCK, ALONE]],
                         [[], [], [[0, 1]], [], [[0]], [[0, 1]], [[0]]])

    def test_all_of_some_webs(self):
        for web in some_webs():
            for kind in KINDS:
                forts = all_forts(web, kind)
                self.assertEqual(least_forts(web, kind), least_of(forts), (web, kind))
                self.assertEqual(least_forts(web, kind) == [], left_open(web, kind) == [])

    def test_ascending_and_of_different_sizes(self):
        web = (6, [(0, 0), (0, 1), (1, 1), (1, 2), (2, 3), (2, 4)], [[0, 1], [3, 4]])
        self.assertEqual(least_forts(web, "still"), [[0, 1, 2], [3, 4], [5]])
        web = (6, [(0, 0), (1, 2), (2, 3), (3, 1), (4, 5), (5, 4)], [])
        self.assertEqual(least_forts(web, "steady"), [[0], [1, 2, 3], [4, 5]])

    def test_mixed_webs_of_ten_quantities(self):
        numbers, found = numbers_from(31), []
        for chance in [2, 2, 3, 4, 6]:
            web = mixed_web(numbers, 10, chance, 8)
            for kind in KINDS:
                wanted = least_of(all_forts(web, kind))
                self.assertEqual(least_forts(web, kind), wanted)
                found.extend(wanted)
        self.assertGreater(len(found), 20)

    def test_ten_quantities(self):
        pairs = [list(some) for some in combinations(range(10), 2)]
        self.assertEqual([least_forts(FULL_TEN, kind) for kind in KINDS], [pairs, pairs])
        self.assertEqual(least_forts((10, [], []), "still"), [[at] for at in range(10)])
        self.assertEqual(least_forts((10, [(at, at) for at in range(10)], []), "steady"), [[at] for at in range(10)])
        ring = (10, [(at, at + 1) for at in range(9)] + [(9, 0)], [])
        self.assertEqual([least_forts(ring, kind) for kind in KINDS], [[], [list(range(10))]])

    def assert_error(self, error, web, kind):
        with self.assertRaises(error) as caught:
            least_forts(web, kind)
        return caught.exception

    def test_more_than_ten_quantities(self):
        for count in range(11, 21):
            for pairs, nudges in [([], []), ([(0, 1)], [[0]])]:
                for kind in KINDS:
                    self.assertEqual(self.assert_error(TooLarge, (count, pairs, nudges), kind).limit, 10)
        for kind in KINDS:
            self.assertEqual(self.assert_error(TooLarge, FULL, kind).limit, 10)
        self.assert_error(InvalidKind, BARE, "loose")
        self.assert_error(InvalidWeb, (21, [], []), "still")
        self.assert_error(InvalidWeb, (21, [], []), None)
        self.assert_error(InvalidWeb, (11, [], [[]]), "loose")


if __name__ == "__main__":
    unittest.main()
