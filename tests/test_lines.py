"""Points 12, 13 and 25: what single lines do that are taken away or put in."""

import unittest
from itertools import combinations

from nudgewebs.every import reaches_every
from nudgewebs.lines import mending, mending_pairs, needed, raising, spoiling
from nudgewebs.some import most
from tests.samples import BARE, CHAIN, FULL, LEAST, LONG, LOOP, PAIR, SAMPLES, STAR, TWINS, all_lines
from tests.samples import greatest_size, mixed_web, numbers_from, ring_web, small_webs

EVERY = list(range(20))
GREAT_STAR = (20, [(0, at) for at in range(1, 20)], [[0]])
BACK = (20, [(a, b) for a in EVERY for b in EVERY if b <= a + 1], [[0]])
ALL = [needed, raising, spoiling, mending, mending_pairs]


def absent(web):
    return [(a, b) for a in range(web[0]) for b in range(web[0]) if (a, b) not in web[1]]


def more(web, pair):
    return (web[0], sorted([*web[1], pair]), web[2])


def less(web, line):
    """The web without a line. A nudge without targets plays no part, so it is left out here."""
    count, pairs, nudges = web
    source, target = line
    if source < count:
        return (count, [pair for pair in pairs if pair != line], nudges)
    left = [[one for one in nudge if (count + at, one) != line] for at, nudge in enumerate(nudges)]
    return (count, pairs, [nudge for nudge in left if nudge])


def wanted_lines(web):
    """Point 25, for all five functions in their sequence: each line taken away, each pair put in."""
    size, sure = most(web), reaches_every(web)
    spoilt = [pair for pair in absent(web) if not reaches_every(more(web, pair))]
    mended = [line for line in all_lines(web) if reaches_every(less(web, line))]
    mended_by = [pair for pair in absent(web) if reaches_every(more(web, pair))]
    return [[line for line in all_lines(web) if most(less(web, line)) < size],
            [pair for pair in absent(web) if most(more(web, pair)) > size],
            spoilt if sure else [], [] if sure else mended, [] if sure else mended_by]


def small_ones():
    numbers = numbers_from(277)
    found = [*small_webs(1, 2, 9), *small_webs(2, 2, 9), *small_webs(3, 1, 4), *small_webs(3, 2, 3), *SAMPLES[:6], TWINS]
    return found + [mixed_web(numbers, 3 + at % 4, 2 + at % 4, 3) for at in range(200)]


def great_webs():
    numbers = numbers_from(281)
    found = [mixed_web(numbers, 20, chance, chance % 9) for chance in range(3, 60, 6)] + [BARE, LONG, GREAT_STAR]
    found += [ring_web([2, 3, 5, 4, 6], []), ring_web([2, 3, 5, 4, 6], [[7]]), (20, LONG[1][:9] + LONG[1][10:], [[0]])]
    return found


class Lines(unittest.TestCase):
    def test_small_webs(self):
        found = [0] * 5
        for web in small_ones():
            results = [function(web) for function in ALL]
            self.assertEqual(results, wanted_lines(web), web)
            found = [many + (result != []) for many, result in zip(found, results)]
        self.assertGreater(min(found), 20, found)

    def test_small_webs_by_their_covers(self):
        for web in [*small_webs(2, 2, 5), *small_webs(3, 1, 4), STAR, CHAIN, PAIR, TWINS]:
            size = greatest_size(web)
            self.assertEqual(needed(web), [line for line in all_lines(web) if greatest_size(less(web, line)) < size])
            self.assertEqual(raising(web), [pair for pair in absent(web) if greatest_size(more(web, pair)) > size])

    def test_great_webs(self):
        for web in great_webs():
            self.assertEqual([function(web) for function in ALL], wanted_lines(web), web)

    def test_ascending_and_of_the_right_kinds(self):
        for web in small_ones() + great_webs() + [FULL, BACK]:
            lines, pairs = all_lines(web), absent(web)
            for function in ALL:
                found = function(web)
                self.assertEqual(found, sorted(set(found)))
                inside = lines if function in (needed, mending) else pairs
                self.assertTrue(set(found) <= set(inside), (function, web))

    def test_what_asks_for_a_web_that_is_sure_or_not(self):
        for web in small_ones() + great_webs() + [FULL, BACK]:
            if reaches_every(web):
                self.assertEqual([mending(web), mending_pairs(web)], [[], []])
            else:
                self.assertEqual(spoiling(web), [])


class Needed(unittest.TestCase):
    def test_examples(self):
        self.assertEqual([needed(web) for web in [CHAIN, STAR, PAIR, LEAST, LOOP, BARE]],
                         [[(0, 1), (1, 2), (3, 0)], [(3, 0)], [], [], [], []])

    def test_lines_that_no_cover_has_but_by_which_a_ring_is_reached(self):
        web = (3, [(0, 1), (1, 2), (2, 1)], [[0]])
        self.assertEqual(needed(web), [(0, 1), (1, 2), (3, 0)])
        web = (4, [(0, 0), (0, 1), (1, 1), (1, 2), (2, 2), (2, 3), (3, 3)], [[0]])
        self.assertEqual(needed(web), [(0, 1), (1, 2), (2, 3), (4, 0)])
        web = (4, [(0, 0), (0, 1), (0, 2), (1, 1), (1, 2), (2, 2), (3, 3)], [[0], [3]])
        self.assertEqual(needed(web), [(0, 1), (4, 0), (5, 3)])

    def test_the_only_line_of_a_nudge(self):
        # The other nudge keeps its number, 4.
        self.assertEqual(needed((3, [(1, 2)], [[0], [1]])), [(1, 2), (3, 0), (4, 1)])
        self.assertEqual(needed((3, [(1, 2)], [[0], [0, 1]])), [(1, 2), (3, 0), (4, 1)])
        self.assertEqual(needed((1, [], [[0], [0]])), [])
        self.assertEqual(needed((1, [], [[0]])), [(1, 0)])
        self.assertEqual(needed((2, [], [[0], [1]])), [(2, 0), (3, 1)])

    def test_twenty_quantities(self):
        self.assertEqual(needed(LONG), all_lines(LONG))
        self.assertEqual(needed(FULL), [])
        self.assertEqual(needed((20, FULL[1], [[7]])), [(20, 7)])
        self.assertEqual(needed(GREAT_STAR), [(20, 0)])
        rings = ring_web([2, 3, 5, 4, 6], [[7]])
        # The ring in which the nudge stands may be a way instead.
        self.assertEqual(needed(rings), [pair for pair in rings[1] if pair[0] >= 5 and pair != (6, 7)] + [(20, 7)])
        self.assertEqual(needed((20, [], [[at, at + 1] for at in range(8)])), [])
        self.assertEqual(needed((20, [], [[2 * at] for at in range(8)])), [(20 + at, 2 * at) for at in range(8)])


class Raising(unittest.TestCase):
    def test_examples(self):
        self.assertEqual([raising(web) for web in [CHAIN, STAR, PAIR, LEAST, LOOP, FULL, BARE]],
                         [[], [(1, 1), (1, 2), (2, 1), (2, 2)], [], [], [], [], []])

    def test_a_ring_that_gets_reached(self):
        self.assertEqual(raising((4, [(1, 2), (2, 1), (3, 3)], [[0]])), [(0, 1), (0, 2), (0, 3)])
        self.assertEqual(raising((3, [(1, 2), (2, 1)], [[0]])), [(0, 1), (0, 2)])

    def test_twenty_quantities(self):
        self.assertEqual(raising((20, LONG[1][:18], [[0]])), [(18, 19)])
        self.assertEqual(raising((20, [], [[0]])), [(0, at) for at in EVERY[1:]])
        self.assertEqual(raising(GREAT_STAR), [(a, b) for a in EVERY[1:] for b in EVERY[1:]])
        self.assertEqual(raising((20, [], [[3]] * 8)), [(3, at) for at in EVERY if at != 3])


class Sure(unittest.TestCase):
    def test_spoiling(self):
        self.assertEqual([spoiling(web) for web in [CHAIN, STAR, PAIR, LEAST, LOOP, FULL, BARE]], [[]] * 7)
        self.assertEqual(spoiling((3, [(a, b) for a in range(3) for b in range(3) if b <= a + 1], [[0]])), [(0, 2)])
        self.assertEqual(spoiling((2, [(0, 1)], [[0]])), [])
        self.assertEqual(spoiling((2, [], [[0], [0, 1]])), [])
        # Each quantity of the row is forced by the one ahead still, but for the one of which the pair comes.
        self.assertEqual(spoiling(LONG), [])
        self.assertEqual(spoiling(BACK), [(a, b) for a in EVERY for b in EVERY if b > a + 1])

    def test_mending(self):
        self.assertEqual(mending((2, [(0, 0), (0, 1)], [[0, 1]])), [(0, 0), (0, 1), (2, 1)])
        self.assertEqual([mending(web) for web in [STAR, CHAIN, (1, [], [[0]]), BARE, FULL]], [[]] * 5)
        for pair in [(0, 2), (3, 9), (17, 19)]:
            spoilt = more(BACK, pair)
            self.assertIs(reaches_every(spoilt), False)
            self.assertIn(pair, mending(spoilt))
            self.assertEqual(mending(spoilt), wanted_lines(spoilt)[3])

    def test_mending_pairs(self):
        self.assertEqual(mending_pairs(STAR), [(1, 1), (1, 2), (2, 1), (2, 2)])
        gap = (20, LONG[1][:9] + LONG[1][10:], [[0]])
        self.assertEqual(mending_pairs(gap), wanted_lines(gap)[4])
        self.assertIn((9, 10), mending_pairs(gap))
        self.assertEqual([mending_pairs(web) for web in [BARE, FULL, CHAIN, LONG, BACK]], [[]] * 5)

    def test_the_only_line_of_a_nudge(self):
        # Without its line the second nudge plays no part: the first one still forces what it did.
        web = (2, [(0, 1)], [[0], [1]])
        self.assertEqual([spoiling(web), mending(web), mending_pairs(web)], [[], [], []])
        for web in [(2, [(0, 0), (0, 1)], [[0], [0, 1]]), (3, [(0, 1), (1, 2)], [[0, 1], [0], [1, 2]])]:
            self.assertEqual([function(web) for function in ALL], wanted_lines(web))

    def test_two_lines_that_both_spoil(self):
        for some in combinations(absent(CHAIN), 2):
            web = (3, sorted([*CHAIN[1], *some]), CHAIN[2])
            self.assertEqual([function(web) for function in ALL], wanted_lines(web))


class Greatest(unittest.TestCase):
    def test_all_pairs(self):
        self.assertEqual([function(FULL) for function in ALL], [[]] * 5)
        for many in range(9):
            web = (20, FULL[1], FULL[2][:many])
            self.assertEqual([raising(web), spoiling(web), mending_pairs(web)], [[]] * 3)
            self.assertEqual(needed(web), [])
            self.assertEqual(mending(web), [])

    def test_all_pairs_back(self):
        # The quantity behind each one is forced by it, whatever acts back.
        self.assertIs(reaches_every(BACK), True)
        self.assertEqual(needed(BACK), [(at, at + 1) for at in EVERY[:19]] + [(20, 0)])
        self.assertEqual([raising(BACK), mending(BACK), mending_pairs(BACK)], [[]] * 3)


if __name__ == "__main__":
    unittest.main()
