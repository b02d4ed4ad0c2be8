"""Points 4 and 17: which values are webs."""

import unittest

from nudgewebs.webs import is_web
from tests.samples import FULL, ODD_VALUES, SAMPLES, nested

EVERY = list(range(20))


class Webs(unittest.TestCase):
    def assert_webs(self, values):
        for value in values:
            self.assertIs(is_web(value), True, value)

    def assert_no_webs(self, values):
        for value in values:
            self.assertIs(is_web(value), False, value)

    def test_the_samples(self):
        self.assert_webs(SAMPLES)

    def test_each_count(self):
        self.assert_webs([(count, [], []) for count in range(1, 21)])
        self.assert_no_webs([(count, [], []) for count in [-20, -1, 0, 21, 22, 10 ** 29]])

    def test_pairs_from_none_to_all(self):
        self.assert_webs([(20, FULL[1][:many], []) for many in range(401)])
        self.assert_webs([(1, [(0, 0)], []), (2, [(0, 0), (0, 1), (1, 0), (1, 1)], [])])

    def test_nudges_from_none_to_eight(self):
        self.assert_webs([(20, [], [EVERY] * many) for many in range(9)])
        self.assert_no_webs([(20, [], [EVERY] * 9), (1, [], [[0]] * 9), (1, [], [[0]] * 420)])

    def test_nudges_may_be_equal_and_stand_in_any_sequence(self):
        self.assert_webs([(3, [], [[2], [0], [2]]), (3, [], [[1, 2], [0, 1, 2], [0]])])

    def test_numbers_out_of_range(self):
        self.assert_no_webs([(2, [pair], []) for pair in [(-1, 0), (0, -1), (2, 0), (0, 2), (0, 10 ** 29)]])
        self.assert_no_webs([(2, [], [[target]]) for target in [-1, 2, 10 ** 29]])
        self.assert_no_webs([(19, FULL[1], []), (19, [], FULL[2]), (2, [], [[0], [0, 1, 2]])])

    def test_doubled_or_not_ascending(self):
        self.assert_no_webs([
            (3, [(0, 1), (0, 1)], []), (3, [(0, 2), (0, 1)], []), (3, [(1, 0), (0, 1)], []),
            (3, [(0, 0), (0, 1), (2, 2), (1, 1)], []), (3, [], [[0, 0]]), (3, [], [[1, 0]]),
            (3, [], [[0], [0, 2, 1]]), (20, FULL[1][1:] + FULL[1][:1], []),
        ])

    def test_an_empty_nudge(self):
        self.assert_no_webs([(3, [], [[]]), (3, [], [[0], []])])

    def test_bools_are_no_integers(self):
        self.assert_no_webs([
            (True, [], []), (2, [(False, 0)], []), (2, [(0, True)], []), (2, [], [[True]]),
            (2, [], [[False, 1]]), (2, [(0, 0), (0, True), (1, 1)], []), (False, [], []),
        ])

    def test_lists_are_no_tuples_and_tuples_are_no_lists(self):
        self.assert_no_webs([
            [1, [], []], (1, (), []), (1, [], ()), (1, [[0, 0]], []), (1, [], [(0,)]), (1, ((0, 0),), []),
            (2, [(0, 0), [0, 1]], []), (2, [], [[0], (1,)]),
        ])

    def test_parts_missing_or_too_many(self):
        self.assert_no_webs([
            (), (1,), (1, []), (1, [], [], []), (1, [], [], None), (1, [()], []), (1, [(0,)], []),
            (1, [(0, 0, 0)], []),
        ])

    def test_other_kinds_of_values(self):
        self.assert_no_webs(ODD_VALUES)
        for odd in ODD_VALUES:
            self.assert_no_webs([
                (odd, [], []), (3, [(odd, 0)], []), (3, [(0, odd)], []),
                (3, [], [odd, [0]]), (3, [], [[odd]]), (3, [], [[0, odd]]),
            ])
            # Some of them are right as a pair, as pairs or as nudges.
            self.assert_no_webs([(3, [odd], []), (3, [(0, 0), odd], [])] if odd != (0, 1) else [])
            self.assert_no_webs([(3, odd, [])] if odd not in ([], [(0, 1)]) else [])
            self.assert_no_webs([(3, [], odd)] if odd not in ([], [[0, 1]]) else [])

    def test_nested_ones(self):
        for levels in range(1, 21):
            for as_tuple in [False, True]:
                self.assert_no_webs([nested((1, [], []), levels - 1, as_tuple) if levels > 1 else None])
                self.assert_no_webs([nested(0, levels, as_tuple), (1, nested([], levels, as_tuple), [])])
                self.assert_no_webs([(1, [], nested([], levels, as_tuple)), (1, [], [nested(0, levels + 1, as_tuple)])])


if __name__ == "__main__":
    unittest.main()
