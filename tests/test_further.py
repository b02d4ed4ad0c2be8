"""Points 10, 11, 12 and 24: the fewest further nudges."""

import unittest
from itertools import combinations, combinations_with_replacement

from nudgewebs.errors import InvalidWeb, TooLarge
from nudgewebs.every import left_open, reaches_every
from nudgewebs.further import fewest_single, fewest_sure, fewest_wide, single_nudges, sure_nudges, wide_nudges
from nudgewebs.some import most, reaches_some
from tests import samples
from tests.samples import BARE, CHAIN, FULL, KINDS, LEAST, LONG, LOOP, PAIR, SAMPLES, STAR, STUCK, TWINS, all_lines
from tests.samples import mixed_web, numbers_from, reached, ring_web, small_webs, subsets

EVERY = list(range(20))
TWO = (4, [(0, 1), (2, 3)], [])
GREAT_STAR = (20, [(0, at) for at in range(1, 20)], [[0]])
ELEVEN = (11, [(at, at + 1) for at in range(10)], [[0]])


def has_pairing(web):
    """Whether some pairing of a small web has a line to each quantity, found by trying."""
    taken = [set()]
    for quantity in range(web[0]):
        sources = {source for source, target in all_lines(web) if target == quantity}
        taken = [used | {source} for used in taken for source in sources - used]
    return bool(taken)


def all_reached_by_some(web, further):
    """Point 12: whether with further nudges some filling reaches all states."""
    more = (web[0], web[1], web[2] + [list(targets) for targets in further])
    return len(reached(more)) == web[0] and has_pairing(more)


def all_reached_by_every(web, quantities):
    """Point 11: whether with a nudge more on each of these quantities there is no fort."""
    more = (web[0], web[1], web[2] + [[quantity] for quantity in quantities])
    forts = [some for some in subsets(range(web[0]), web[0]) if some]
    return not any(samples.is_fort(more, kind, some) for kind in KINDS for some in forts)


def least_ones(sets):
    """Those sets, by their sizes, that contain no other one."""
    found = []
    for one in sorted(sets, key=len):
        if not any(other <= one for other in found):
            found.append(one)
    return found


def small_ones():
    numbers = numbers_from(263)
    found = [*small_webs(1, 2, 9), *small_webs(2, 2, 9), *small_webs(3, 1, 5), *small_webs(3, 2, 4), *SAMPLES[:6], TWINS]
    return found + [mixed_web(numbers, 3 + at % 2, 2 + at % 5, 2) for at in range(240)] + [TWO]


def great_webs():
    numbers = numbers_from(269)
    found = [mixed_web(numbers, 20, chance, chance % 9) for chance in range(2, 60)] + SAMPLES
    found += [ring_web([2, 3, 5, 4, 6], []), ring_web([2, 3, 5, 4, 6], [[7]]), GREAT_STAR]
    return found + [(20, [(a, b) for a, b in LONG[1] if a % many], []) for many in range(1, 8)]


class Wide(unittest.TestCase):
    def test_examples(self):
        self.assertEqual([fewest_wide(web) for web in [STAR, CHAIN, PAIR, LEAST, LOOP, STUCK, TWINS, TWO]],
                         [1, 0, 1, 1, 1, 0, 0, 2])

    def assert_wide(self, web):
        found = wide_nudges(web)
        self.assertEqual(len(found), fewest_wide(web))
        for targets in found:
            self.assertTrue(targets and targets == sorted(set(targets) & set(range(web[0]))))
        return found

    def test_all_choices_of_further_nudges(self):
        numbers = {0: 0, 1: 0, 2: 0, 3: 0}
        for web in small_ones():
            # One nudge of all kinds of targets is enough for a quantity, so as many as these are.
            targets = [some for some in subsets(range(web[0]), web[0]) if some]
            many = fewest_wide(web)
            self.assertTrue(all_reached_by_some(web, self.assert_wide(web)), web)
            if many:
                fewer = combinations_with_replacement(targets, many - 1)
                self.assertFalse(any(all_reached_by_some(web, some) for some in fewer), web)
            if many in numbers:
                numbers[many] += 1
        self.assertGreater(min(numbers.values()), 10, numbers)

    def test_great_webs(self):
        for web in great_webs():
            found = self.assert_wide(web)
            if len(web[2]) + len(found) <= 8:
                self.assertIs(reaches_some((web[0], web[1], web[2] + found)), True)
                if found:
                    self.assertLess(most((web[0], web[1], web[2] + found[1:])), web[0])

    def test_more_than_eight_in_all(self):
        self.assertEqual([fewest_wide(web) for web in [BARE, GREAT_STAR, (20, [], [EVERY] * 8), (20, [], [[3]] * 8)]],
                         [20, 18, 12, 19])
        self.assertEqual([len(wide_nudges(web)) for web in [BARE, GREAT_STAR, (20, [], [EVERY] * 8)]], [20, 18, 12])

    def test_twenty_quantities(self):
        self.assertEqual([fewest_wide(web) for web in [FULL, LONG, (20, FULL[1], []), (20, LONG[1], [])]], [0, 0, 1, 1])
        # Nothing is lacking but that all are reached.
        self.assertEqual(fewest_wide(ring_web([2, 3, 5, 4, 6], [[7]])), 1)
        self.assertEqual(fewest_wide((20, [(at, at) for at in EVERY], [EVERY[:19]])), 1)
        self.assertEqual(fewest_wide((20, [(at, at) for at in EVERY], [EVERY])), 0)

    def test_none_needed_just_if_some_filling_reaches_all_states(self):
        for web in small_ones() + great_webs():
            for fewest, nudges in [(fewest_wide, wide_nudges), (fewest_single, single_nudges)]:
                self.assertIs(fewest(web) == 0, reaches_some(web))
                self.assertIs(nudges(web) == [], reaches_some(web))


class Single(unittest.TestCase):
    def test_examples(self):
        self.assertEqual([fewest_single(web) for web in [STAR, CHAIN, PAIR, LEAST, LOOP, STUCK, TWINS, TWO]],
                         [1, 0, 1, 1, 1, 0, 0, 2])
        self.assertEqual([single_nudges(web) for web in [LEAST, LOOP, CHAIN, TWO]], [[0], [0], [], [0, 2]])

    def assert_single(self, web):
        found = single_nudges(web)
        self.assertEqual(len(found), fewest_single(web))
        self.assertEqual(found, sorted(set(found) & set(range(web[0]))))
        return found

    def test_all_choices_of_further_nudges(self):
        numbers = {0: 0, 1: 0, 2: 0, 3: 0}
        for web in small_ones():
            many = fewest_single(web)
            self.assertTrue(all_reached_by_some(web, [[quantity] for quantity in self.assert_single(web)]), web)
            if many:
                fewer = combinations_with_replacement(range(web[0]), many - 1)
                found = [some for some in fewer if all_reached_by_some(web, [[quantity] for quantity in some])]
                self.assertEqual(found, [], web)
            if many in numbers:
                numbers[many] += 1
        self.assertGreater(min(numbers.values()), 10, numbers)

    def test_more_than_wide_ones(self):
        found = 0
        for web in small_ones() + great_webs():
            self.assertGreaterEqual(fewest_single(web), fewest_wide(web))
            found += fewest_single(web) > fewest_wide(web)
        self.assertGreater(found, 50)
        rings = (6, [(0, 1), (1, 0), (2, 3), (3, 2), (4, 4), (5, 4)], [])
        self.assertEqual([fewest_wide(rings), fewest_single(rings), single_nudges(rings)[-1]], [1, 3, 5])

    def test_a_quantity_that_is_cut_off_and_lacks_a_source(self):
        # A nudge that must act on the room of 0 and 1 is the source that 1 or 2 lacks, too, if it acts on 1.
        self.assertEqual(single_nudges((3, [(0, 1), (0, 2), (1, 0)], [])), [1])
        self.assertEqual(single_nudges((4, [(0, 1), (0, 2), (1, 0), (3, 3)], [])), [1, 3])
        # Two are lacking among 1, 2 and 3; a nudge must act on 0, too, and on 1 if 0 does not act on it.
        self.assertEqual(fewest_single((4, [(0, 0), (0, 1), (1, 1), (1, 2), (1, 3)], [])), 2)
        self.assertEqual(fewest_single((4, [(0, 0), (1, 1), (1, 2), (1, 3)], [])), 3)
        # One is lacking among 2, 3 and 4, which are not in the room that is cut off.
        cut_off = (5, [(0, 1), (1, 0), (2, 2), (2, 3), (2, 4)], [[2]])
        self.assertEqual([fewest_wide(cut_off), fewest_single(cut_off)], [1, 2])

    def test_great_webs(self):
        for web in great_webs():
            found = self.assert_single(web)
            if len(web[2]) + len(found) <= 8:
                more = (web[0], web[1], web[2] + [[quantity] for quantity in found])
                self.assertIs(reaches_some(more), True, web)
                for quantity in found:
                    less = (web[0], web[1], web[2] + [[other] for other in found if other != quantity])
                    self.assertIs(reaches_some(less), False, web)

    def test_twenty_quantities(self):
        self.assertEqual([single_nudges(web) for web in [BARE, FULL, LONG, (20, LONG[1], [])]], [EVERY, [], [], [0]])
        self.assertEqual([fewest_single(web) for web in [GREAT_STAR, (20, FULL[1], []), (20, [], [EVERY] * 8)]], [18, 1, 12])
        self.assertEqual(single_nudges((20, [(at, at) for at in EVERY], [])), EVERY)
        self.assertEqual(single_nudges((20, [(at, at) for at in EVERY], [EVERY[:11]])), EVERY[11:])
        self.assertEqual(single_nudges((20, [], [[3]] * 8)), EVERY[:3] + EVERY[4:])
        self.assertEqual(fewest_single((20, [(at, at ^ 1) for at in EVERY], [])), 10)


class Sure(unittest.TestCase):
    def assert_sure(self, web):
        found = sure_nudges(web)
        self.assertEqual({len(some) for some in found}, {fewest_sure(web)})
        return found

    def test_all_lists_of_quantities(self):
        numbers = {0: 0, 1: 0, 2: 0, 3: 0}
        for web in small_ones():
            for many in range(fewest_sure(web) + 1):
                right = [list(some) for some in combinations(range(web[0]), many) if all_reached_by_every(web, some)]
                self.assertEqual(right, [] if many < fewest_sure(web) else self.assert_sure(web), (web, many))
            if fewest_sure(web) in numbers:
                numbers[fewest_sure(web)] += 1
        self.assertGreater(min(numbers.values()), 10, numbers)

    def test_a_nudge_twice_is_of_no_use(self):
        for web in [STAR, PAIR, STUCK, TWO]:
            for some in combinations_with_replacement(range(web[0]), fewest_sure(web)):
                if len(set(some)) < len(some):
                    self.assertFalse(all_reached_by_every(web, some))

    def test_examples(self):
        self.assertEqual([sure_nudges(web) for web in [STAR, CHAIN, PAIR, LEAST, LOOP, STUCK, TWO]],
                         [[[1], [2]], [[]], [[0]], [[0]], [[0]], [[0], [1]], [[0, 2]]])
        self.assertEqual([fewest_sure(web) for web in [STAR, CHAIN, PAIR, LEAST, LOOP, STUCK, TWO]],
                         [1, 0, 1, 1, 1, 1, 2])

    def test_none_needed_just_if_every_filling_reaches_all_states(self):
        for web in small_ones():
            self.assertIs(fewest_sure(web) == 0, reaches_every(web))
            self.assertIs(sure_nudges(web) == [[]], reaches_every(web))

    def test_ten_quantities(self):
        numbers = numbers_from(271)
        webs = [mixed_web(numbers, 10, 2 + at, 4) for at in range(12)]
        webs += [(10, [(a, b) for a in range(10) for b in range(10)], [list(range(10))] * 8), (10, [], []),
                 ring_web([2, 3, 5], [[0]]), (10, [(at, at) for at in range(10)], [])]
        for web in webs:
            # A nudge more on a quantity of a fort has just one aim in it; so each fort must have one.
            forts = least_ones([set(some) for some in subsets(range(10), 10)[1:] for kind in KINDS
                                if samples.is_fort(web, kind, some)])
            for many in range(fewest_sure(web) + 1):
                right = [list(some) for some in combinations(range(10), many) if all(fort & set(some) for fort in forts)]
                self.assertEqual(right, [] if many < fewest_sure(web) else self.assert_sure(web), (web, many))
        self.assertEqual([fewest_sure(web) for web in [webs[-4], webs[-3], webs[-1]]], [9, 10, 10])
        self.assertEqual(sure_nudges(webs[-4]), [list(some) for some in combinations(range(10), 9)])
        self.assertEqual(sure_nudges((10, [], [])), [list(range(10))])

    def test_with_these_nothing_is_left_open_for_either_kind(self):
        for web in small_ones():
            for some in sure_nudges(web)[:3]:
                if len(web[2]) + len(some) <= 8:
                    more = (web[0], web[1], web[2] + [[quantity] for quantity in some])
                    self.assertEqual([left_open(more, kind) for kind in KINDS], [[], []])

    def test_ten_quantities_at_most(self):
        for called in [fewest_sure, sure_nudges]:
            for web in [ELEVEN, BARE, FULL, LONG, (11, [], [])]:
                with self.assertRaises(TooLarge) as caught:
                    called(web)
                self.assertEqual(caught.exception.limit, 10)
            for wrong in [list(ELEVEN), (11, [(0, 11)], []), (21, [], []), None, (11, [], [[]])]:
                self.assertRaises(InvalidWeb, called, wrong)


if __name__ == "__main__":
    unittest.main()
