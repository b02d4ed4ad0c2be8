"""Points 5, 15 and 17: targets, sources, lines, and the webs that differ from a web."""

import unittest
from itertools import permutations

from nudgewebs.errors import LineThere, NoLine, TooLarge
from nudgewebs.webs import is_web, joined, lines_of, renumbered, sources_of, targets_of, turned
from nudgewebs.webs import with_nudge, with_pair, without_nudge, without_pair
from tests.samples import BARE, CHAIN, FULL, LEAST, LOOP, LONG, SAMPLES, STAR, TWINS, mixed_web, numbers_from


def more_webs():
    """The samples, and mixed webs of 1 to 20 quantities."""
    numbers = numbers_from(17)
    return SAMPLES + [mixed_web(numbers, count, chance, 8) for count in range(1, 21) for chance in (2, 5)]


class Lines(unittest.TestCase):
    def test_targets_of_quantities_and_nudges(self):
        self.assertEqual([targets_of(STAR, source) for source in range(4)], [[1, 2], [], [], [0]])
        self.assertEqual([targets_of(TWINS, source) for source in range(6)], [[0, 3], [], [1], [3], [0, 2], [0, 2]])

    def test_sources_of(self):
        self.assertEqual([sources_of(STAR, quantity) for quantity in range(3)], [[3], [0], [0]])
        self.assertEqual([sources_of(TWINS, quantity) for quantity in range(4)], [[0, 4, 5], [2], [4, 5], [0, 3]])

    def test_lines_of(self):
        self.assertEqual(lines_of(STAR), [(0, 1), (0, 2), (3, 0)])
        self.assertEqual(lines_of(TWINS), [(0, 0), (0, 3), (2, 1), (3, 3), (4, 0), (4, 2), (5, 0), (5, 2)])
        self.assertEqual([lines_of(LEAST), lines_of(LOOP), lines_of(BARE)], [[], [(0, 0)], []])

    def test_the_greatest_web(self):
        every, sources = list(range(20)), list(range(28))
        self.assertEqual([targets_of(FULL, source) for source in sources], [every] * 28)
        self.assertEqual([sources_of(FULL, quantity) for quantity in every], [sources] * 20)
        self.assertEqual(lines_of(FULL), [(source, target) for source in sources for target in every])

    def test_all_three_tell_the_same(self):
        for web in more_webs():
            lines, sources = lines_of(web), range(web[0] + len(web[2]))
            self.assertEqual(lines, sorted(set(lines)))
            self.assertEqual(len(lines), len(web[1]) + sum(len(nudge) for nudge in web[2]))
            self.assertEqual(lines, [(source, target) for source in sources for target in targets_of(web, source)])
            told = [(source, target) for target in range(web[0]) for source in sources_of(web, target)]
            self.assertEqual(sorted(told), lines)
            self.assertEqual([pair for pair in lines if pair[0] < web[0]], web[1])
            self.assertEqual([targets_of(web, web[0] + at) for at in range(len(web[2]))], web[2])


class Pairs(unittest.TestCase):
    def test_a_pair_more(self):
        self.assertEqual(with_pair(STAR, 1, 2), (3, [(0, 1), (0, 2), (1, 2)], [[0]]))
        self.assertEqual(with_pair(STAR, 0, 0), (3, [(0, 0), (0, 1), (0, 2)], [[0]]))
        self.assertEqual(with_pair(LEAST, 0, 0), LOOP)

    def test_a_pair_less(self):
        self.assertEqual(without_pair(STAR, 0, 1), (3, [(0, 2)], [[0]]))
        self.assertEqual(without_pair(LOOP, 0, 0), LEAST)

    def test_a_line_that_is_there_and_one_that_is_not(self):
        self.assertRaises(LineThere, with_pair, STAR, 0, 2)
        self.assertRaises(LineThere, with_pair, FULL, 19, 19)
        self.assertRaises(NoLine, without_pair, STAR, 2, 0)
        self.assertRaises(NoLine, without_pair, BARE, 19, 19)

    def test_each_pair_of_each_web(self):
        for web in more_webs():
            count, pairs, nudges = web
            for place in [(source, target) for source in range(count) for target in range(count)]:
                if place in pairs:
                    less = without_pair(web, *place)
                    self.assertEqual(less, (count, [pair for pair in pairs if pair != place], nudges))
                    self.assertEqual(with_pair(less, *place), web)
                    self.assertRaises(LineThere, with_pair, web, *place)
                else:
                    more = with_pair(web, *place)
                    self.assertEqual(more, (count, sorted(pairs + [place]), nudges))
                    self.assertEqual(without_pair(more, *place), web)
                    self.assertRaises(NoLine, without_pair, web, *place)


class Nudges(unittest.TestCase):
    def test_a_nudge_more_is_the_last_one(self):
        self.assertEqual(with_nudge(STAR, [1, 2]), (3, [(0, 1), (0, 2)], [[0], [1, 2]]))
        self.assertEqual(with_nudge(STAR, [0]), (3, [(0, 1), (0, 2)], [[0], [0]]))
        self.assertEqual(with_nudge(BARE, list(range(20))), (20, [], [list(range(20))]))

    def test_a_nudge_less(self):
        three = (3, [(0, 1)], [[0], [1], [0, 2]])
        self.assertEqual([without_nudge(three, at)[2] for at in range(3)], [[[1], [0, 2]], [[0], [0, 2]], [[0], [1]]])
        self.assertEqual(without_nudge(STAR, 0), (3, [(0, 1), (0, 2)], []))

    def test_of_equal_nudges_the_right_one_goes(self):
        self.assertEqual(without_nudge((2, [], [[0], [1], [0]]), 2), (2, [], [[0], [1]]))

    def test_eight_nudges_at_most(self):
        web = (2, [], [])
        for many in range(1, 9):
            web = with_nudge(web, [0, 1])
            self.assertEqual(web, (2, [], [[0, 1]] * many))
        for targets in [[0], [1], [0, 1]]:
            with self.assertRaises(TooLarge) as caught:
                with_nudge(web, targets)
            self.assertEqual(caught.exception.limit, 8)
        self.assertRaises(TooLarge, with_nudge, FULL, [0])
        self.assertEqual(without_nudge(FULL, 7), (20, FULL[1], FULL[2][:7]))

    def test_one_more_and_the_last_one_less(self):
        for web in more_webs():
            if len(web[2]) < 8:
                self.assertEqual(without_nudge(with_nudge(web, [web[0] - 1]), len(web[2])), web)


class Turned(unittest.TestCase):
    def test_each_pair_is_turned_and_the_nudges_stay(self):
        self.assertEqual(turned(CHAIN), (3, [(1, 0), (2, 1)], [[0]]))
        self.assertEqual(turned(TWINS), (4, [(0, 0), (1, 2), (3, 0), (3, 3)], [[0, 2], [0, 2]]))
        self.assertEqual([turned(LEAST), turned(LOOP), turned(FULL)], [LEAST, LOOP, FULL])

    def test_what_acts_is_acted_on(self):
        for web in more_webs():
            other = turned(web)
            self.assertTrue(is_web(other))
            self.assertEqual({(target, source) for source, target in web[1]}, set(other[1]))
            self.assertEqual((other[0], other[2]), (web[0], web[2]))
            self.assertEqual(turned(other), web)


class Renumbered(unittest.TestCase):
    def test_a_few(self):
        self.assertEqual(renumbered(CHAIN, [1, 2, 0]), (3, [(0, 1), (2, 0)], [[2]]))
        self.assertEqual(renumbered(STAR, [0, 1, 2]), STAR)
        web = (3, [(0, 0), (1, 2)], [[1, 2], [0]])
        self.assertEqual(renumbered(web, [2, 0, 1]), (3, [(1, 1), (2, 0)], [[0, 2], [1]]))

    def test_each_order_of_a_small_web(self):
        for order in permutations(range(4)):
            web = renumbered(TWINS, list(order))
            self.assertTrue(is_web(web))
            self.assertEqual({(order[source], order[target]) for source, target in web[1]}, set(TWINS[1]))
            self.assertEqual([{order[target] for target in nudge} for nudge in web[2]], [set(one) for one in TWINS[2]])

    def test_there_and_back(self):
        numbers = numbers_from(3)
        for web in more_webs():
            order = sorted(range(web[0]), key=lambda _: next(numbers))
            back = [order.index(at) for at in range(web[0])]
            other = renumbered(web, order)
            self.assertTrue(is_web(other))
            self.assertEqual(renumbered(other, back), web)

    def test_the_greatest_web(self):
        self.assertEqual(renumbered(FULL, list(range(19, -1, -1))), FULL)
        self.assertEqual(renumbered(LONG, list(range(19, -1, -1))), (20, [(at, at - 1) for at in range(1, 20)], [[19]]))


class Joined(unittest.TestCase):
    def test_the_second_one_stands_behind_the_first_one(self):
        both = [(0, 1), (0, 2), (3, 4), (4, 5)]
        self.assertEqual(joined(STAR, CHAIN, []), (6, both, [[0], [3]]))
        self.assertEqual(joined(CHAIN, STAR, []), (6, [(0, 1), (1, 2), (3, 4), (3, 5)], [[0], [3]]))
        self.assertEqual(joined(STAR, STAR, []), (6, [(0, 1), (0, 2), (3, 4), (3, 5)], [[0], [3]]))

    def test_a_link_leads_from_the_first_one_to_the_second_one(self):
        self.assertEqual(joined(STAR, CHAIN, [(2, 0)])[1], [(0, 1), (0, 2), (2, 3), (3, 4), (4, 5)])
        self.assertEqual(joined(STAR, CHAIN, [(0, 0), (0, 2), (1, 1)])[1],
                         [(0, 1), (0, 2), (0, 3), (0, 5), (1, 4), (3, 4), (4, 5)])

    def test_links_are_numbered_in_each_web_by_itself(self):
        self.assertEqual(joined(LEAST, TWINS, [(0, 3)])[1], [(0, 4), (1, 1), (1, 4), (3, 2), (4, 4)])
        self.assertEqual(joined(TWINS, LEAST, [(3, 0)])[1], [(0, 0), (0, 3), (2, 1), (3, 3), (3, 4)])

    def test_the_nudges_of_the_second_one_are_moved(self):
        self.assertEqual(joined(TWINS, TWINS, [])[2], [[0, 2], [0, 2], [4, 6], [4, 6]])

    def test_twenty_quantities_and_eight_nudges_at_most(self):
        ten, four = (10, [], []), [[0]] * 4
        self.assertEqual(joined(ten, ten, []), BARE)
        self.assertEqual(joined((1, [], four), (1, [], four), [])[2], [[0]] * 4 + [[1]] * 4)
        every = [(a, b) for a in range(10) for b in range(10)]
        half = (10, every, [list(range(10))] * 4)
        self.assertTrue(is_web(joined(half, half, every)))
        self.assertEqual(len(joined(half, half, every)[1]), 300)

    def assert_too_large(self, limit, web, second):
        with self.assertRaises(TooLarge) as caught:
            joined(web, second, [])
        self.assertEqual(caught.exception.limit, limit)

    def test_too_many_quantities_are_told_ahead_of_too_many_nudges(self):
        eleven, ten, one = (11, [], []), (10, [], []), (1, [], [])
        self.assert_too_large(20, eleven, ten)
        self.assert_too_large(20, ten, eleven)
        self.assert_too_large(20, BARE, one)
        self.assert_too_large(20, FULL, FULL)
        self.assert_too_large(20, one, FULL)
        self.assert_too_large(8, (10, [], [[0]] * 8), (10, [], [[0]]))
        self.assert_too_large(8, (1, [], [[0]]), (1, [], [[0]] * 8))
        self.assert_too_large(8, (1, [], [[0]] * 4), (1, [], [[0]] * 5))

    def test_each_web_behind_each_other_one(self):
        webs = [web for web in more_webs() if web[0] <= 10 and len(web[2]) <= 4]
        for web in webs:
            for second in webs:
                links = [(source, target) for source in range(web[0]) for target in range(0, second[0], 2)]
                count, pairs, nudges = joined(web, second, links)
                self.assertTrue(is_web((count, pairs, nudges)))
                first = web[0]
                self.assertEqual([pair for pair in pairs if max(pair) < first], web[1])
                self.assertEqual([(a - first, b - first) for a, b in pairs if min(a, b) >= first], second[1])
                self.assertEqual([(a, b - first) for a, b in pairs if a < first <= b], links)
                self.assertEqual(len(pairs), len(web[1]) + len(second[1]) + len(links))
                self.assertEqual(nudges[:len(web[2])], web[2])
                behind = [[target - first for target in nudge] for nudge in nudges[len(web[2]):]]
                self.assertEqual((count, behind), (first + second[0], second[2]))


if __name__ == "__main__":
    unittest.main()
