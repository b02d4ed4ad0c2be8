"""Points 13 and 23: the greatest size of a cover, such covers, and where the quantities stand in them."""

import unittest

from nudgewebs.some import best_cover, best_hill, is_cover, most, placed, reaches_some
from tests import samples
from tests.samples import BARE, CHAIN, FULL, LEAST, LONG, LOOP, PAIR, SAMPLES, STAR, STUCK, TWINS, covered_sets
from tests.samples import greatest_size, hill_bound, mixed_web, numbers_from, ring_web, small_webs, subsets

EVERY = list(range(20))
GREAT_STAR = (20, [(0, at) for at in range(1, 20)], [[0]])
# Seven quantities act on all of the thirteen others, and these on them.
SIDES = (20, [(a, b) for a in EVERY for b in EVERY if (a < 7) != (b < 7)], [[0]])
RINGS = ring_web([1, 2, 3, 4, 4, 3, 2, 1], [[0]])
DOWN = (20, [(a, b) for a in EVERY for b in EVERY if a < b], [[0]])


def small_ones():
    """All webs of up to three quantities and two nudges, and some of four."""
    numbers = numbers_from(211)
    found = [*small_webs(1, 2, 9), *small_webs(2, 2, 9), *small_webs(3, 1, 12), *small_webs(3, 2, 6)]
    found += [*small_webs(4, 1, 4), *small_webs(4, 2, 3), STAR, CHAIN, PAIR, TWINS]
    return found + [mixed_web(numbers, 4, 2 + at % 3, 2) for at in range(400)]


def great_webs():
    numbers = numbers_from(223)
    found = [mixed_web(numbers, 20, chance, 1 + chance % 8) for chance in range(2, 60)] + SAMPLES
    found += [(20, [(a, b) for a, b in mixed_web(numbers, 20, 3, 0)[1] if a % 3 != 1], [[at]]) for at in range(9)]
    return found + [GREAT_STAR, SIDES, RINGS, DOWN]


class Most(unittest.TestCase):
    def test_examples(self):
        self.assertEqual([most(web) for web in [STAR, CHAIN, PAIR, LEAST, LOOP, STUCK, TWINS]], [2, 3, 0, 0, 0, 2, 4])
        self.assertEqual([reaches_some(web) for web in [STAR, CHAIN, PAIR, LEAST, LOOP, STUCK, TWINS]],
                         [False, True, False, False, False, True, True])

    def test_small_webs(self):
        for web in small_ones():
            greatest = greatest_size(web)
            self.assertEqual(most(web), greatest, web)
            self.assertIs(reaches_some(web), greatest == web[0])

    def test_a_way_and_a_ring_that_need_each_other(self):
        # The ring is reached only through the way, and the way ends ahead of it or leads through it.
        self.assertEqual(most((4, [(0, 1), (1, 2), (2, 1), (2, 3)], [[0]])), 4)
        self.assertEqual(most((4, [(0, 1), (0, 3), (1, 2), (2, 1)], [[0]])), 4)
        self.assertEqual(most((4, [(0, 3), (1, 2), (2, 1)], [[0]])), 2)
        self.assertEqual(most((5, [(0, 1), (1, 2), (1, 3), (2, 0), (3, 4)], [[0]])), 4)
        self.assertEqual(most((5, [(0, 1), (1, 2), (1, 3), (2, 0), (3, 4)], [[0], [3]])), 5)

    def test_one_line_more_never_makes_it_less(self):
        for web in [*small_webs(2, 2, 9), *small_webs(3, 1, 3), *great_webs()[::9]]:
            count, pairs, nudges = web
            for pair in [(a, b) for a in range(count) for b in range(count) if (a, b) not in pairs][::1 + count // 4]:
                self.assertGreaterEqual(most((count, sorted(pairs + [pair]), nudges)), most(web))
            if len(nudges) < 8:
                for targets in subsets(range(min(count, 4)), 3)[1:]:
                    self.assertGreaterEqual(most((count, pairs, nudges + [targets])), most(web))

    def test_twenty_quantities(self):
        self.assertEqual([most(web) for web in [LONG, GREAT_STAR, RINGS, FULL, BARE, SIDES, DOWN]],
                         [20, 2, 20, 20, 0, 14, 20])
        self.assertEqual([most((20, web[1], [])) for web in [LONG, GREAT_STAR, RINGS, FULL, SIDES]], [0] * 5)
        self.assertEqual([most((20, LONG[1], [[at]])) for at in EVERY], list(range(20, 0, -1)))
        self.assertEqual([most((20, LONG[1], [[0], [at]])) for at in EVERY], [20] * 20)
        self.assertEqual([most((20, GREAT_STAR[1], [[0]] + [EVERY] * many)) for many in range(8)], list(range(2, 10)))
        self.assertEqual([most((20, [], [EVERY] * many)) for many in range(9)], list(range(9)))
        self.assertEqual([most((20, [], [[3]] * many)) for many in range(9)], [0] + [1] * 8)
        self.assertEqual([most((20, DOWN[1], [[at]])) for at in EVERY], list(range(20, 0, -1)))
        self.assertEqual([most((20, SIDES[1], [[at]])) for at in EVERY], [14] * 7 + [15] * 13)
        self.assertEqual([most((20, SIDES[1], [[7, 8, 9]] * many)) for many in range(1, 6)], [15, 16, 17, 17, 17])


class BestCover(unittest.TestCase):
    def assert_best(self, web):
        cover = best_cover(web)
        self.assertIs(is_cover(web, cover), True, (web, cover))
        ways, rings = cover
        self.assertTrue(samples.is_cover(web, ways, rings), (web, cover))
        self.assertEqual(sum(map(len, [way for _, way in ways] + rings)), most(web), (web, cover))

    def test_small_webs(self):
        for web in small_ones():
            self.assert_best(web)

    def test_no_cover_is_greater_than_the_bound_of_a_hill(self):
        for web in great_webs():
            self.assert_best(web)
            self.assertEqual(hill_bound(web, best_hill(web)), most(web))

    def test_where_there_is_just_one(self):
        self.assertEqual(best_cover(CHAIN), ([(0, [0, 1, 2])], []))
        self.assertEqual([best_cover(web) for web in [LEAST, LOOP, PAIR, BARE]], [([], [])] * 4)
        self.assertEqual(best_cover(LONG), ([(0, EVERY)], []))
        self.assertEqual(best_cover((1, [], [[0]])), ([(0, [0])], []))


class Placed(unittest.TestCase):
    def test_small_webs(self):
        found = {"always": 0, "never": 0, "sometimes": 0}
        for web in small_ones():
            sets = covered_sets(web)
            greatest = [one for one in sets if len(one) == max(map(len, sets))]
            for quantity, word in enumerate(placed(web)):
                inside = [quantity in one for one in greatest]
                wanted = "always" if all(inside) else "sometimes" if any(inside) else "never"
                self.assertEqual(word, wanted, (web, quantity))
                found[word] += 1
        self.assertGreater(min(found.values()), 1000)

    def test_reached_and_never_in_one(self):
        # The quantity 2 ends a way of two, but a way of three passes it by.
        self.assertEqual(placed((5, [(0, 1), (0, 2), (1, 3), (3, 4)], [[0]])),
                         ["always", "always", "never", "always", "always"])
        self.assertEqual(placed((3, [(0, 1), (1, 1)], [[0, 1, 2]])), ["sometimes", "always", "sometimes"])

    def test_twenty_quantities(self):
        for web in [LONG, RINGS, FULL, DOWN]:
            self.assertEqual(placed(web), ["always"] * 20)
        self.assertEqual(placed(GREAT_STAR), ["always"] + ["sometimes"] * 19)
        self.assertEqual(placed(BARE), ["never"] * 20)
        self.assertEqual(placed((20, FULL[1], [])), ["never"] * 20)
        self.assertEqual(placed((20, LONG[1], [[7]])), ["never"] * 7 + ["always"] * 13)
        self.assertEqual(placed((20, [], [EVERY] * 8)), ["sometimes"] * 20)
        self.assertEqual(placed((20, [], [[3]] * 8)), ["never"] * 3 + ["always"] + ["never"] * 16)
        self.assertEqual(placed(SIDES), ["always"] * 7 + ["sometimes"] * 13)
        shorter = (20, sorted(LONG[1][:18] + [(9, 19)]), [[0]])
        self.assertEqual(placed(shorter), ["always"] * 19 + ["never"])

    def test_words_agree_with_the_best_cover(self):
        for web in great_webs():
            ways, rings = best_cover(web)
            covered = [quantity for row in [way for _, way in ways] + rings for quantity in row]
            for quantity, word in enumerate(placed(web)):
                self.assertNotEqual(word, "never" if quantity in covered else "always")


if __name__ == "__main__":
    unittest.main()
