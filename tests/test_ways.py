"""Points 12 and 21: ways, and rooms of quantities that lead to one another."""

import unittest
from itertools import permutations

from nudgewebs.ways import first_rooms, reached, rooms, unreached, way_to
from tests.samples import BARE, CHAIN, FULL, LEAST, LONG, LOOP, PAIR, SAMPLES, STAR, STUCK, TWINS, mixed_web
from tests.samples import numbers_from, small_webs

EVERY = list(range(20))


def some_webs():
    """Small webs of all kinds, and mixed webs of up to six quantities."""
    numbers = numbers_from(103)
    webs = [*small_webs(1, 2, 9), *small_webs(2, 2, 9), *small_webs(3, 1, 4)]
    return webs + [mixed_web(numbers, 3 + at % 4, 2 + at % 5, 3) for at in range(300)]


def all_ways(web):
    """All tuples of a nudge and a way [12] of a small web."""
    found = []
    for many in range(1, web[0] + 1):
        for way in permutations(range(web[0]), many):
            if all(pair in web[1] for pair in zip(way, way[1:])):
                found += [(at, list(way)) for at, nudge in enumerate(web[2]) if way[0] in nudge]
    return found


def best_way(ways, quantity):
    """The fewest quantities, then the least nudge, then the least way."""
    leading = [(len(way), nudge, way) for nudge, way in ways if way[-1] == quantity]
    return min(leading)[1:] if leading else None


def led_to(web):
    """For each quantity those to which one or more pairs, one behind the other, lead from it."""
    found = {(a, b) for a, b in web[1]}
    for via in range(web[0]):
        found |= {(a, b) for a in range(web[0]) for b in range(web[0]) if (a, via) in found and (via, b) in found}
    return found


def rooms_of(web):
    led, found = led_to(web), []
    for quantity in range(web[0]):
        room = [other for other in range(web[0])
                if other == quantity or ((quantity, other) in led and (other, quantity) in led)]
        if room not in found:
            found.append(room)
    return sorted(found)


def first_rooms_of(web):
    return [room for room in rooms_of(web) if not any(b in room and a not in room for a, b in web[1])]


class Reached(unittest.TestCase):
    def test_examples(self):
        self.assertEqual([reached(web) for web in [STAR, CHAIN, PAIR, LEAST, LOOP, STUCK, TWINS]],
                         [[0, 1, 2], [0, 1, 2], [], [], [], [0, 1], [0, 1, 2, 3]])
        self.assertEqual([unreached(web) for web in [STAR, CHAIN, PAIR, LEAST, LOOP, STUCK, TWINS]],
                         [[], [], [0, 1, 2], [0], [0], [], []])
        web = (5, [(0, 1), (1, 0), (2, 3), (4, 3)], [[1], [3]])
        self.assertEqual([reached(web), unreached(web)], [[0, 1, 3], [2, 4]])

    def test_the_last_quantities_of_all_ways(self):
        for web in some_webs():
            ends = {way[-1] for _, way in all_ways(web)}
            self.assertEqual(reached(web), sorted(ends), web)
            self.assertEqual(unreached(web), sorted(set(range(web[0])) - ends))

    def test_twenty_quantities(self):
        self.assertEqual([reached(web) for web in [BARE, FULL, LONG]], [[], EVERY, EVERY])
        self.assertEqual([unreached(web) for web in [BARE, FULL, LONG]], [EVERY, [], []])
        for at in range(20):
            web = (20, LONG[1], [[at]])
            self.assertEqual([reached(web), unreached(web)], [EVERY[at:], EVERY[:at]])
            self.assertEqual(reached((20, [], [[at]] * 8)), [at])
            self.assertEqual(reached((20, FULL[1], [[at]])), EVERY)


class WayTo(unittest.TestCase):
    def test_examples(self):
        self.assertEqual([way_to(CHAIN, at) for at in range(3)], [(0, [0]), (0, [0, 1]), (0, [0, 1, 2])])
        self.assertEqual([way_to(PAIR, at) for at in range(3)], [None] * 3)
        self.assertEqual([way_to(TWINS, at) for at in range(4)], [(0, [0]), (0, [2, 1]), (0, [2]), (0, [0, 3])])

    def test_the_fewest_quantities_come_first(self):
        web = (4, [(0, 1), (1, 2), (2, 3)], [[0], [1], [3]])
        self.assertEqual([way_to(web, at) for at in range(4)], [(0, [0]), (1, [1]), (1, [1, 2]), (2, [3])])
        web = (5, [(0, 1), (0, 3), (1, 2), (2, 4), (3, 4)], [[0]])
        self.assertEqual(way_to(web, 4), (0, [0, 3, 4]))

    def test_then_the_least_nudge(self):
        web = (3, [(0, 2), (1, 2)], [[1], [0]])
        self.assertEqual([way_to(web, at) for at in range(3)], [(1, [0]), (0, [1]), (0, [1, 2])])
        self.assertEqual(way_to((1, [], [[0]] * 8), 0), (0, [0]))
        self.assertEqual(way_to((2, [(0, 1)], [[0], [1], [1]]), 1), (1, [1]))

    def test_then_the_least_way(self):
        pairs = [(0, 3), (1, 2), (1, 3), (2, 4), (3, 4), (4, 5)]
        self.assertEqual(way_to((6, pairs, [[1]]), 5), (0, [1, 2, 4, 5]))
        self.assertEqual(way_to((6, pairs, [[0, 1]]), 5), (0, [0, 3, 4, 5]))
        self.assertEqual(way_to((6, pairs, [[1], [0]]), 5), (0, [1, 2, 4, 5]))
        self.assertEqual(way_to((6, pairs[1:], [[0, 1]]), 5), (0, [1, 2, 4, 5]))

    def test_a_quantity_that_acts_on_itself(self):
        self.assertIsNone(way_to(LOOP, 0))
        self.assertEqual(way_to((1, [(0, 0)], [[0]]), 0), (0, [0]))
        self.assertEqual(way_to((2, [(0, 0), (0, 1), (1, 1)], [[0]]), 1), (0, [0, 1]))

    def test_all_ways_of_some_webs(self):
        for web in some_webs():
            ways = all_ways(web)
            for quantity in range(web[0]):
                self.assertEqual(way_to(web, quantity), best_way(ways, quantity), (web, quantity))

    def test_none_exactly_if_unreached(self):
        for web in [*SAMPLES, *some_webs()]:
            none = [quantity for quantity in range(web[0]) if way_to(web, quantity) is None]
            self.assertEqual(none, unreached(web))

    def test_twenty_quantities(self):
        for at in range(20):
            self.assertIsNone(way_to(BARE, at))
            self.assertEqual(way_to(FULL, at), (0, [at]))
            self.assertEqual(way_to(LONG, at), (0, EVERY[:at + 1]))
            self.assertEqual(way_to((20, FULL[1], [[7, 9]]), at), (0, [at] if at in (7, 9) else [7, at]))
            self.assertEqual(way_to((20, LONG[1], [[0], [10]]), at), (0, EVERY[:at + 1]) if at < 10
                             else (1, EVERY[10:at + 1]))


class Rooms(unittest.TestCase):
    def test_examples(self):
        self.assertEqual([rooms(web) for web in [STAR, CHAIN, PAIR, LEAST, LOOP, STUCK, TWINS]],
                         [[[0], [1], [2]], [[0], [1], [2]], [[0, 1], [2]], [[0]], [[0]], [[0, 1]], [[0], [1], [2], [3]]])
        self.assertEqual([first_rooms(web) for web in [STAR, CHAIN, PAIR, LEAST, LOOP, STUCK, TWINS]],
                         [[[0]], [[0]], [[0, 1]], [[0]], [[0]], [[0, 1]], [[0], [2]]])

    def test_rooms_whose_numbers_are_mixed(self):
        web = (6, [(0, 4), (1, 3), (2, 1), (3, 2), (4, 0), (4, 5)], [])
        self.assertEqual([rooms(web), first_rooms(web)], [[[0, 4], [1, 2, 3], [5]], [[0, 4], [1, 2, 3]]])
        web = (6, [(0, 4), (1, 3), (2, 1), (3, 2), (4, 0), (4, 5), (5, 3)], [])
        self.assertEqual([rooms(web), first_rooms(web)], [[[0, 4], [1, 2, 3], [5]], [[0, 4]]])
        web = (4, [(0, 2), (1, 3), (2, 0), (2, 2), (3, 1), (3, 3)], [])
        self.assertEqual([rooms(web), first_rooms(web)], [[[0, 2], [1, 3]], [[0, 2], [1, 3]]])

    def test_nudges_play_no_part(self):
        for web in some_webs()[::7]:
            bare = (web[0], web[1], [])
            self.assertEqual([rooms(web), first_rooms(web)], [rooms(bare), first_rooms(bare)])
        self.assertEqual(rooms((2, [], [[0, 1]] * 8)), [[0], [1]])

    def test_all_of_some_webs(self):
        for web in some_webs():
            self.assertEqual(rooms(web), rooms_of(web), web)
            self.assertEqual(first_rooms(web), first_rooms_of(web), web)

    def test_mixed_webs_of_twenty_quantities(self):
        numbers, found = numbers_from(107), set()
        for chance in range(5, 60):
            web = mixed_web(numbers, 20, chance, 2)
            self.assertEqual([rooms(web), first_rooms(web)], [rooms_of(web), first_rooms_of(web)])
            found.update(len(room) for room in rooms(web))
            self.assertEqual(sorted(one for room in rooms(web) for one in room), EVERY)
            self.assertNotEqual(first_rooms(web), [])
        self.assertGreater(len(found), 10)

    def test_twenty_quantities(self):
        single = [[at] for at in EVERY]
        self.assertEqual([rooms(web) for web in [BARE, FULL, LONG]], [single, [EVERY], single])
        self.assertEqual([first_rooms(web) for web in [BARE, FULL, LONG]], [single, [EVERY], [[0]]])
        ring = (20, LONG[1] + [(19, 0)], [])
        self.assertEqual([rooms(ring), first_rooms(ring)], [[EVERY], [EVERY]])
        for at in range(1, 20):
            web = (20, sorted(LONG[1] + [(at, 0)]), [])
            self.assertEqual(rooms(web), [EVERY[:at + 1]] + single[at + 1:])
            self.assertEqual(first_rooms(web), [EVERY[:at + 1]])


if __name__ == "__main__":
    unittest.main()
