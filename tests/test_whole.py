"""Points 1, 11, 12, 13 and 14: what the whole program shows of each web."""

import unittest

from nudgewebs.console import Console
from nudgewebs.every import forcing_row, is_forcing_row, left_open, reaches_every, rounds
from nudgewebs.fillings import is_filling, pushes_to, reach_dimension, reach_rows, shows_pushes, unmoved_rows
from nudgewebs.forts import fort_filling, is_fort, least_forts, shows_fort
from nudgewebs.further import fewest_single, fewest_sure, fewest_wide, single_nudges, sure_nudges, wide_nudges
from nudgewebs.lines import mending, mending_pairs, needed, raising, spoiling
from nudgewebs.live import LiveWeb
from nudgewebs.pairings import greatest_pairing, is_gap, is_pairing, loose, pairing_size
from nudgewebs.seen import hidden_rows, sees_every, sees_some, shown, turned_filling
from nudgewebs.some import best_cover, best_filling, best_hill, bound_of, is_cover, is_hill, most, placed, reaches_some
from nudgewebs.texts import read_web, show_web
from nudgewebs.ways import first_rooms, reached, rooms, unreached, way_to
from nudgewebs.webs import is_web, turned, with_nudge, with_pair, without_nudge, without_pair
from tests.samples import FULL, KINDS, LONG, SAMPLES, TWINS, mixed_web, numbers_from, ring_web, small_webs

EVERY = list(range(20))
GREAT = 10 ** 30 - 1


def small_ones():
    numbers = numbers_from(379)
    found = [*small_webs(1, 2, 9), *small_webs(2, 2, 9), *small_webs(3, 1, 6), *small_webs(3, 2, 4), *small_webs(4, 1, 3)]
    return found + [mixed_web(numbers, 4 + at % 3, 2 + at % 4, 3) for at in range(200)] + [*SAMPLES[:6], TWINS]


def great_webs():
    """Webs of 20 quantities; the first ones with all pairs and from none to eight nudges."""
    numbers = numbers_from(383)
    found = [(20, FULL[1], FULL[2][:many]) for many in [0, 1, 8]]
    found += [mixed_web(numbers, 20, chance, 1 + chance % 8) for chance in range(2, 24, 3)]
    return found + [LONG, turned(LONG), ring_web([2, 3, 5, 4, 6], [[7], [0, 1]]), (20, [], [EVERY] * 8)]


class Whole(unittest.TestCase):
    def assert_every(self, web):
        """Either forcing rows of both kinds, or a fort and a filling that shows it."""
        rows = [forcing_row(web, kind) for kind in KINDS]
        forts = [left_open(web, kind) for kind in KINDS]
        self.assertIs(reaches_every(web), None not in rows)
        for kind, row, fort in zip(KINDS, rows, forts):
            self.assertIs(row is None, fort != [])
            if row is None:
                filling = fort_filling(web, kind, fort)
                self.assertEqual([is_fort(web, kind, fort), shows_fort(web, kind, fort, filling)], [True, True])
                self.assertLess(reach_dimension(web, filling), web[0])
                # No push moves the sum of the fort.
                state = [int(at in fort) for at in range(web[0])]
                self.assertFalse(any(sum(a * b for a, b in zip(state, one)) for one in reach_rows(web, filling)))
            else:
                self.assertIs(is_forcing_row(web, kind, row), True)
        return None not in rows

    def assert_some(self, web):
        """Either a filling that reaches all states, or a quantity that is not reached, or a gap."""
        filling, gap = best_filling(web), loose(web)
        self.assertIs(is_filling(web, filling), True)
        right = reach_dimension(web, filling) == web[0]
        self.assertIs(right, reaches_some(web))
        self.assertIs(right, unreached(web) == [] and gap == [])
        self.assertIs(gap != [], is_gap(web, gap))
        self.assertIs(gap == [], pairing_size(web) == web[0])
        if right:
            self.assertEqual([most(web), fewest_wide(web), fewest_single(web)], [web[0], 0, 0])
        return right

    def assert_most(self, web):
        """The greatest dimension, from below by a cover and a filling, from above by a hill."""
        ways, rings = cover = best_cover(web)
        hill, size = best_hill(web), sum(map(len, [way for _, way in ways] + rings))
        self.assertEqual([is_cover(web, cover), is_hill(web, hill)], [True, True])
        self.assertEqual([size, reach_dimension(web, best_filling(web)), bound_of(web, hill)], [most(web)] * 3, web)

    def assert_kept(self, web):
        """What the document says of more than one of the functions."""
        if reaches_every(web):
            self.assertEqual([reaches_some(web), most(web), mending(web), mending_pairs(web)], [True, web[0], [], []])
        self.assertEqual(sorted(reached(web) + unreached(web)), list(range(web[0])))
        words = placed(web)
        self.assertEqual([word for word, quantity in zip(words, range(web[0])) if quantity in unreached(web)],
                         ["never"] * len(unreached(web)))
        self.assertEqual(raising(web) == [] or most(web) < web[0], True)
        self.assertIs(is_pairing(web, greatest_pairing(web)), True)
        self.assertEqual(read_web(show_web(web)), web)
        self.assertIs(sees_some(turned(web)), reaches_some(web))
        self.assertIs(sees_every(turned(web)), reaches_every(web))
        self.assertEqual([LiveWeb(web).most, LiveWeb(web).is_sure], [most(web), reaches_every(web)])
        self.assertEqual(sorted(quantity for room in rooms(web) for quantity in room), list(range(web[0])))
        self.assertTrue(all(room in rooms(web) for room in first_rooms(web)))

    def test_small_webs(self):
        found = {(some, every): 0 for some, every in [(False, False), (True, False), (True, True)]}
        for web in small_ones():
            found[self.assert_some(web), self.assert_every(web)] += 1
            self.assert_most(web)
        self.assertGreater(min(found.values()), 40, found)

    def test_small_webs_kept(self):
        for web in small_ones()[::3]:
            self.assert_kept(web)

    def test_great_webs(self):
        for web in great_webs() + SAMPLES:
            self.assert_some(web)
            self.assert_every(web)
            self.assert_most(web)
            self.assert_kept(web)


class Greatest(unittest.TestCase):
    """The greatest webs are ordinary inputs for every function."""

    def test_webs_and_rows(self):
        for web in great_webs():
            self.assertIs(is_web(web), True)
            self.assertEqual(turned(turned(web)), web)
            for kind in KINDS:
                forced = [quantity for one in rounds(web, kind) for quantity in one]
                self.assertEqual(sorted(forced + left_open(web, kind)), EVERY)
            for quantity in EVERY:
                self.assertIs(way_to(web, quantity) is None, quantity in unreached(web))
        less = without_pair(without_nudge(FULL, 3), 4, 5)
        self.assertEqual(with_nudge(with_pair(less, 4, 5), EVERY), FULL)

    def test_fillings(self):
        for web in great_webs():
            filling = best_filling(web)
            self.assertEqual(len(reach_rows(web, filling)) + len(unmoved_rows(web, filling)), 20)
            state = [0] * 20
            for row in reach_rows(web, filling):
                state = [a + b for a, b in zip(state, row)]
            self.assertIs(shows_pushes(web, filling, state, pushes_to(web, filling, state)), True)
            self.assertEqual(turned_filling(turned(web), turned_filling(web, filling)), filling)
            for hidden in hidden_rows(web, filling):
                self.assertFalse(any(any(one) for one in shown(web, filling, hidden, 21)))

    def test_further_nudges_and_lines(self):
        for web in great_webs():
            self.assertLessEqual(fewest_wide(web), fewest_single(web))
            self.assertEqual([len(wide_nudges(web)), len(single_nudges(web))], [fewest_wide(web), fewest_single(web)])
            self.assertTrue(set(raising(web)).isdisjoint(web[1]))
            self.assertTrue(set(spoiling(web) + mending_pairs(web)).isdisjoint(web[1]))
            self.assertIs(spoiling(web) == [] or reaches_every(web), True)
            self.assertIs(needed(web) == [] or most(web) > 0, True)
        ten = (10, [(a, b) for a in range(10) for b in range(10)], [list(range(10))] * 8)
        self.assertEqual([fewest_sure(ten), len(sure_nudges(ten)), least_forts(ten, "still")[:2]], [9, 10, [[0, 1], [0, 2]]])

    def test_live_webs_and_the_console(self):
        live, console = LiveWeb(FULL), Console()
        console.execute("web " + show_web(FULL))
        for at in range(8):
            self.assertEqual(console.execute("detach 0"), str(live.detach(0)))
        self.assertEqual([live.most, live.web, console.execute("text")], [0, (20, FULL[1], []), show_web(live.web)])
        for at in range(8):
            self.assertEqual(console.execute("undo"), str(live.undo()))
        self.assertEqual([live.web, console.execute("text")], [FULL, show_web(FULL)])


if __name__ == "__main__":
    unittest.main()
