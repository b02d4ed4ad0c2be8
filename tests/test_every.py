"""Points 9 and 18: which quantities can be forced, and in which sequence."""

import unittest
from itertools import product

from nudgewebs.every import forcing_row, is_forcing_row, left_open, reaches_every, rounds
from tests.samples import BARE, CHAIN, FULL, KINDS, LEAST, LONG, LOOP, ODD_VALUES, PAIR, SAMPLES, STAR, STUCK, TWINS
from tests.samples import can_force, forcers, greatest_fort, mixed_web, nested, numbers_from, small_webs

EVERY = list(range(20))


def some_webs():
    """All webs of one or two quantities with up to two nudges, and mixed webs of up to seven."""
    numbers = numbers_from(5)
    webs = [*small_webs(1, 2, 9), *small_webs(2, 2, 9)]
    return webs + [mixed_web(numbers, 3 + at % 5, 2 + at % 3, 3) for at in range(300)]


def row_of(web, kind):
    """The row of point 18, straight from the definition of forcing."""
    unforced, row = set(range(web[0])), []
    while unforced:
        found = forcers(web, kind, unforced)
        if not found:
            return None
        quantity, source = found[0]
        row.append((source, quantity))
        unforced.discard(quantity)
    return row


def rounds_of(web, kind):
    unforced, found = set(range(web[0])), []
    while forcers(web, kind, unforced):
        found.append(sorted({quantity for quantity, _ in forcers(web, kind, unforced)}))
        unforced -= set(found[-1])
    return found


def is_row(web, kind, row):
    unforced = set(range(web[0]))
    for source, quantity in row:
        if quantity not in unforced or not can_force(web, kind, source, quantity, unforced):
            return False
        unforced.discard(quantity)
    return not unforced


class Forcing(unittest.TestCase):
    def test_the_kind_still(self):
        webs = [STAR, CHAIN, PAIR, LEAST, LOOP, STUCK, TWINS]
        self.assertEqual([left_open(web, "still") for web in webs], [[1, 2], [], [0, 2], [0], [], [0, 1], []])
        self.assertEqual([rounds(web, "still") for web in webs],
                         [[[0]], [[0, 1, 2]], [[1]], [], [[0]], [], [[1, 3], [0], [2]]])
        self.assertEqual([forcing_row(web, "still") for web in webs],
                         [None, [(3, 0), (0, 1), (1, 2)], None, None, [(0, 0)], None, [(2, 1), (3, 3), (0, 0), (4, 2)]])

    def test_the_kind_steady(self):
        webs = [STAR, CHAIN, PAIR, LEAST, LOOP, STUCK, TWINS]
        self.assertEqual([left_open(web, "steady") for web in webs], [[], [], [0, 1], [], [0], [0, 1], []])
        self.assertEqual([rounds(web, "steady") for web in webs],
                         [[[0, 1, 2]], [[0, 2], [1]], [[2]], [[0]], [], [], [[1], [2], [0], [3]]])
        self.assertEqual([forcing_row(web, "steady") for web in webs],
                         [[(3, 0), (1, 1), (0, 2)], [(3, 0), (0, 1), (1, 2)], None, [(0, 0)], None, None,
                          [(1, 1), (2, 2), (4, 0), (0, 3)]])

    def test_a_quantity_that_acts_on_itself(self):
        # When its other target is forced, it forces itself for the kind still only.
        two = (2, [(0, 0), (0, 1)], [[1]])
        self.assertEqual(forcing_row(two, "still"), [(2, 1), (0, 0)])
        self.assertEqual([forcing_row(two, "steady"), left_open(two, "steady")], [None, [0]])
        self.assertEqual([rounds(two, "still"), rounds(two, "steady")], [[[1], [0]], [[1]]])

    def test_a_quantity_that_acts_on_itself_forces_another_one(self):
        two = (2, [(0, 0), (0, 1), (1, 0), (1, 1)], [[0]])
        self.assertEqual([forcing_row(two, kind) for kind in KINDS], [[(2, 0), (0, 1)]] * 2)

    def test_another_source_forces_a_quantity_that_acts_on_itself(self):
        self.assertEqual([forcing_row((1, [(0, 0)], [[0]]), kind) for kind in KINDS], [[(0, 0)], [(1, 0)]])
        two = (2, [(0, 0), (1, 0)], [[1]])
        self.assertEqual([forcing_row(two, kind) for kind in KINDS], [[(0, 0), (2, 1)], [(2, 1), (1, 0)]])

    def test_the_least_quantity_comes_first_and_then_the_least_source(self):
        web = (3, [(0, 2), (1, 2), (2, 1)], [[2], [0], [0]])
        self.assertEqual(forcing_row(web, "still"), [(4, 0), (2, 1), (0, 2)])
        self.assertEqual(forcing_row(web, "steady"), [(4, 0), (0, 2), (1, 1)])

    def test_the_greatest_web(self):
        for kind in KINDS:
            self.assertEqual([left_open(FULL, kind), rounds(FULL, kind), forcing_row(FULL, kind)], [EVERY, [], None])
        self.assertIs(reaches_every(FULL), False)

    def test_twenty_quantities(self):
        row = [(20, 0)] + [(at, at + 1) for at in range(19)]
        self.assertEqual([forcing_row(LONG, kind) for kind in KINDS], [row, row])
        self.assertEqual(rounds(LONG, "still"), [EVERY])
        self.assertEqual(rounds(LONG, "steady"), [[at, 19 - at] for at in range(10)])
        self.assertIs(reaches_every(LONG), True)
        self.assertEqual([left_open(BARE, kind) for kind in KINDS], [EVERY, []])
        self.assertEqual([rounds(BARE, kind) for kind in KINDS], [[], [EVERY]])

    def test_all_follow_from_the_definition(self):
        for web in some_webs():
            for kind in KINDS:
                self.assertEqual(forcing_row(web, kind), row_of(web, kind))
                self.assertEqual(rounds(web, kind), rounds_of(web, kind))

    def test_all_tell_the_same(self):
        for web in some_webs() + SAMPLES:
            for kind in KINDS:
                forced = [quantity for one in rounds(web, kind) for quantity in one]
                self.assertEqual(sorted(forced + left_open(web, kind)), list(range(web[0])))
                row = forcing_row(web, kind)
                self.assertEqual(row is None, left_open(web, kind) != [])
                self.assertEqual(row is None, sorted(forced) != list(range(web[0])))
                if row is not None:
                    self.assertIs(is_forcing_row(web, kind, row), True)
            sure = not left_open(web, "still") and not left_open(web, "steady")
            self.assertIs(reaches_every(web), sure)

    def test_what_is_left_open_is_the_greatest_fort(self):
        for web in some_webs():
            for kind in KINDS:
                self.assertEqual(left_open(web, kind), greatest_fort(web, kind), (web, kind))


class Rows(unittest.TestCase):
    def assert_rows(self, web, kind, rows, right):
        for row in rows:
            self.assertIs(is_forcing_row(web, kind, row), right, (web, kind, row))

    def test_right_rows_of_other_sequences(self):
        self.assert_rows(CHAIN, "still", [[(1, 2), (0, 1), (3, 0)], [(0, 1), (3, 0), (1, 2)]], True)
        self.assert_rows(CHAIN, "steady", [
            [(2, 2), (1, 1), (0, 0)], [(2, 2), (3, 0), (0, 1)], [(3, 0), (2, 2), (1, 1)], [(3, 0), (0, 1), (2, 2)],
        ], True)
        self.assert_rows(STAR, "steady", [[(1, 1), (2, 2), (0, 0)], [(2, 2), (3, 0), (0, 1)]], True)

    def test_tuples_exchanged(self):
        self.assert_rows(CHAIN, "steady", [[(0, 1), (3, 0), (2, 2)], [(1, 1), (2, 2), (0, 0)]], False)
        self.assert_rows(TWINS, "still", [[(4, 2), (0, 0), (3, 3), (2, 1)], [(2, 1), (0, 0), (3, 3), (4, 2)]], False)

    def test_tuples_left_out_or_doubled(self):
        row = forcing_row(CHAIN, "still")
        self.assert_rows(CHAIN, "still", [row[:at] + row[at + 1:] for at in range(3)], False)
        self.assert_rows(CHAIN, "still", [row[:at] + row[at:at + 1] + row[at:] for at in range(3)], False)
        self.assert_rows(CHAIN, "still", [[], row + row, row * 100, row + [(3, 0)]], False)

    def test_tuples_changed(self):
        self.assert_rows(CHAIN, "still", [
            [(3, 0), (0, 1), (2, 2)], [(0, 0), (0, 1), (1, 2)], [(3, 0), (0, 1), (1, 1)], [(2, 0), (0, 1), (1, 2)],
            [(3, 0), (3, 1), (1, 2)], [(0, 3), (1, 0), (2, 1)],
        ], False)

    def test_numbers_out_of_range(self):
        for wrong in [(-1, 0), (3, -1), (4, 0), (3, 3), (3, 10 ** 29), (10 ** 29, 0), (-4, 0), (3, -3)]:
            for kind in KINDS:
                self.assert_rows(CHAIN, kind, [[wrong, (0, 1), (1, 2)], [(1, 2), (0, 1), wrong], [wrong]], False)

    def test_other_items(self):
        for wrong in [[3, 0], (3, False), (True, 2), (3, 0, 0), (3,), (), 3, None, "30", b"\x03\x00", {3: 0},
                      ("3", "0"), (3, None), (None, 0), ((3,), 0), (3, [0])]:
            self.assert_rows(CHAIN, "still", [[wrong, (0, 1), (1, 2)], [(0, 1), (1, 2), wrong]], False)
        self.assert_rows((2, [(1, 0)], [[1]]), "still", [[(True, 0), (2, 1)], [(1, False), (2, 1)]], False)

    def test_values_that_are_no_lists(self):
        for kind in KINDS:
            for web in SAMPLES:
                self.assert_rows(web, kind, ODD_VALUES, False)
            self.assert_rows(CHAIN, kind, [tuple(forcing_row(CHAIN, kind)), dict(forcing_row(CHAIN, kind))], False)
        for levels in range(21):
            for as_tuple in [False, True]:
                values = [nested((3, 0), levels, as_tuple), [(3, 0), (0, 1), nested((1, 2), levels + 1, as_tuple)]]
                self.assert_rows(CHAIN, "still", values, False)

    def test_the_other_kind(self):
        self.assert_rows(LOOP, "steady", [[(0, 0)]], False)
        self.assert_rows(LOOP, "still", [[(0, 0)]], True)
        self.assert_rows(LEAST, "still", [[(0, 0)]], False)
        self.assert_rows(LEAST, "steady", [[(0, 0)]], True)
        self.assert_rows(STAR, "still", [forcing_row(STAR, "steady")], False)
        self.assert_rows(TWINS, "steady", [forcing_row(TWINS, "still")], False)
        self.assert_rows(TWINS, "still", [forcing_row(TWINS, "steady")], False)

    def test_a_quantity_that_acts_on_itself(self):
        web = (1, [(0, 0)], [[0]])
        self.assert_rows(web, "still", [[(0, 0)], [(1, 0)]], True)
        self.assert_rows(web, "steady", [[(0, 0)]], False)
        self.assert_rows(web, "steady", [[(1, 0)]], True)

    def test_all_rows_of_small_webs(self):
        for web in [*small_webs(1, 2, 9), *small_webs(2, 2, 6)]:
            places = list(product(range(web[0] + len(web[2])), range(web[0])))
            for kind in KINDS:
                for many in range(4):
                    for row in product(places, repeat=many):
                        self.assertIs(is_forcing_row(web, kind, list(row)), is_row(web, kind, row))

    def test_all_rows_of_some_webs_of_three(self):
        for web in [CHAIN, STAR, PAIR, (3, [(0, 0), (0, 1), (1, 0), (1, 2)], [[2]])]:
            places = list(product(range(web[0] + len(web[2])), range(3)))
            for kind in KINDS:
                for row in product(places, repeat=3):
                    self.assertIs(is_forcing_row(web, kind, list(row)), is_row(web, kind, row))

    def test_the_greatest_rows(self):
        row = forcing_row(LONG, "still")
        self.assert_rows(LONG, "still", [row, row[::-1]], True)
        self.assert_rows(LONG, "steady", [row, [(at, at) for at in reversed(EVERY)]], True)
        self.assert_rows(LONG, "steady", [row[::-1], row[:-1]], False)
        self.assert_rows(FULL, "still", [row, [(at, at) for at in EVERY]], False)


if __name__ == "__main__":
    unittest.main()
