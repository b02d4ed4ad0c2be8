"""Points 2 and 3: errors of parameters, and arguments and results that share no lists."""

import unittest
from copy import deepcopy
from itertools import product

from nudgewebs import every, webs
from nudgewebs.errors import InvalidKind, InvalidLinks, InvalidNudge, InvalidOrder, InvalidQuantity, InvalidSource
from nudgewebs.errors import InvalidTargets, InvalidWeb, LineThere, NoLine, TooLarge, WebError
from tests.samples import BARE, CHAIN, FULL, KINDS, ODD_VALUES, SAMPLES, STAR, TWINS, lists_in

WRONG_WEBS = ODD_VALUES + [
    (0, [], []), (21, [], []), (True, [], []), (3, [(0, 1), (0, 1)], []), (3, [(0, 3)], []), (3, [], [[]]),
    (3, [], [[0]] * 9), (3, [[0, 1]], []), [3, [], []],
]
WRONG_QUANTITIES = ODD_VALUES + [3, 4, 20, "1", [1], (1,)]
WRONG_LINKS = [odd for odd in ODD_VALUES if odd not in ([], [(0, 1)])] + [
    ((0, 1),), [[0, 1]], [(0, 3)], [(3, 0)], [(0, 1), (0, 1)], [(1, 0), (0, 1)], [(-1, 0)], [(0, -1)],
    [(True, 0)], [(0, False)], [(0, 1, 2)], [(0,)], [(0, 0), (0, 1), None], {(0, 1): 0},
]
WRONG_TARGETS = ODD_VALUES + [
    [], [0, 0], [1, 0], [3], [0, 3], [-1, 0], [True], [0, True], (0,), {0: 0}, "0", [[0]], [0, 1, 2, 3],
]
WRONG_ORDERS = ODD_VALUES + [
    [], [0, 1], [0, 1, 1], [0, 1, 2, 3], [1, 2, 3], [0, 1, 2, 2], [0, True, 2], [False, 1, 2], (0, 1, 2), [-1, 0, 1],
    {0: 0, 1: 1, 2: 2}, [[0], [1], [2]], ["0", "1", "2"],
]
WRONG_KINDS = ODD_VALUES + ["STILL", " still", "steady ", "stil", b"steady", ["still"], ("still", "steady"), 0, 1]

WEB = (InvalidWeb, WRONG_WEBS)
QUANTITY = (InvalidQuantity, WRONG_QUANTITIES)
KIND = (InvalidKind, WRONG_KINDS)

# For each function right arguments for a web of three quantities and a nudge, and for each
# parameter that raises an error that error and wrong values. What is_web and the last
# parameter of is_forcing_row are passed may be any value.
CASES = [
    (webs.targets_of, [STAR, 3], [WEB, (InvalidSource, ODD_VALUES + [4, 5, 28, "3", [3]])]),
    (webs.sources_of, [STAR, 2], [WEB, QUANTITY]),
    (webs.lines_of, [STAR], [WEB]),
    (webs.with_pair, [STAR, 1, 2], [WEB, QUANTITY, QUANTITY]),
    (webs.without_pair, [STAR, 0, 2], [WEB, QUANTITY, QUANTITY]),
    (webs.with_nudge, [STAR, [0, 2]], [WEB, (InvalidTargets, WRONG_TARGETS)]),
    (webs.without_nudge, [STAR, 0], [WEB, (InvalidNudge, ODD_VALUES + [1, 3, "0", [0]])]),
    (webs.turned, [STAR], [WEB]),
    (webs.renumbered, [STAR, [2, 0, 1]], [WEB, (InvalidOrder, WRONG_ORDERS)]),
    (webs.joined, [STAR, CHAIN, [(2, 0)]], [WEB, WEB, (InvalidLinks, WRONG_LINKS)]),
    (every.reaches_every, [STAR], [WEB]),
    (every.forcing_row, [STAR, "steady"], [WEB, KIND]),
    (every.is_forcing_row, [CHAIN, "still", [(3, 0), (0, 1), (1, 2)]], [WEB, KIND]),
    (every.rounds, [CHAIN, "steady"], [WEB, KIND]),
    (every.left_open, [STAR, "still"], [WEB, KIND]),
]
FULL_HALF = (10, [(a, b) for a in range(10) for b in range(10)], [list(range(10))] * 4)
GREAT_CASES = [
    (webs.targets_of, [FULL, 27]), (webs.sources_of, [FULL, 19]), (webs.lines_of, [FULL]),
    (webs.with_pair, [(20, FULL[1][:-1], FULL[2]), 19, 19]), (webs.without_pair, [FULL, 0, 0]),
    (webs.with_nudge, [(20, FULL[1], FULL[2][:7]), FULL[2][7]]), (webs.without_nudge, [FULL, 0]),
    (webs.turned, [FULL]), (webs.renumbered, [FULL, list(range(20))[::-1]]),
    (webs.joined, [FULL_HALF, FULL_HALF, FULL_HALF[1]]), (webs.joined, [STAR, STAR, []]),
    (webs.with_nudge, [TWINS, TWINS[2][0]]), (webs.is_web, [FULL]), (webs.is_web, [[[], [[]], []]]),
    *[(every.reaches_every, [web]) for web in SAMPLES],
    *[(called, [web, kind]) for called in [every.forcing_row, every.rounds, every.left_open]
      for web in SAMPLES for kind in KINDS],
    (every.is_forcing_row, [STAR, "still", [[[3, 0]], [[0]], []]]),
    (every.is_forcing_row, [FULL, "steady", [(at, at) for at in range(20)]]),
]


def error_of(called, arguments):
    """The class of the error that a call raises."""
    try:
        called(*arguments)
    except WebError as error:
        return type(error)
    return None


class Parameters(unittest.TestCase):
    def test_right_arguments_raise_nothing(self):
        for called, right, _ in CASES:
            self.assertIsNone(error_of(called, right), called)

    def test_each_wrong_argument_alone(self):
        for called, right, parameters in CASES:
            for at, (error, values) in enumerate(parameters):
                for value in values:
                    arguments = right[:at] + [value] + right[at + 1:]
                    before = deepcopy(arguments)
                    self.assertIs(error_of(called, arguments), error, (called, at, value))
                    self.assertEqual(arguments, before)

    def test_the_first_wrong_argument_of_several(self):
        for called, right, parameters in CASES:
            for wrong in product([False, True], repeat=len(parameters)):
                if any(wrong):
                    first = parameters[wrong.index(True)][0]
                    for at in range(len(ODD_VALUES)):
                        arguments = [parameters[k][1][(at + 7 * k) % len(parameters[k][1])] if bad else right[k]
                                     for k, bad in enumerate(wrong)]
                        arguments += right[len(parameters):]
                        self.assertIs(error_of(called, arguments), first, (called, arguments))

    def test_errors_that_are_listed_come_behind_those_of_parameters(self):
        self.assertIs(error_of(webs.with_pair, [STAR, 0, 1]), LineThere)
        self.assertIs(error_of(webs.with_pair, [STAR, 0, True]), InvalidQuantity)
        self.assertIs(error_of(webs.with_pair, [STAR, False, 1]), InvalidQuantity)
        self.assertIs(error_of(webs.without_pair, [STAR, 1, 0]), NoLine)
        self.assertIs(error_of(webs.without_pair, [STAR, True, 0]), InvalidQuantity)
        self.assertIs(error_of(webs.with_nudge, [FULL, [0]]), TooLarge)
        self.assertIs(error_of(webs.with_nudge, [FULL, [20]]), InvalidTargets)
        self.assertIs(error_of(webs.with_nudge, [FULL, []]), InvalidTargets)
        self.assertIs(error_of(webs.joined, [FULL, BARE, []]), TooLarge)
        self.assertIs(error_of(webs.joined, [FULL, BARE, [(0, 20)]]), InvalidLinks)
        self.assertIs(error_of(webs.joined, [FULL, None, None]), InvalidWeb)

    def test_limits_are_those_of_the_web(self):
        for web in SAMPLES:
            count, many = web[0], len(web[2])
            for called, error, limit in [(webs.targets_of, InvalidSource, count + many),
                                         (webs.sources_of, InvalidQuantity, count),
                                         (webs.without_nudge, InvalidNudge, many)]:
                for value in range(-30, 31):
                    wanted = None if 0 <= value < limit else error
                    self.assertIs(error_of(called, [web, value]), wanted, (called, web, value))

    def test_a_link_has_a_quantity_of_the_first_and_one_of_the_second_web(self):
        one, five = (1, [], []), (5, [], [])
        for source in range(-1, 7):
            for target in range(-1, 7):
                links = [(source, target)]
                right = source == 0 and 0 <= target < 5
                self.assertIs(error_of(webs.joined, [one, five, links]), None if right else InvalidLinks)
                right = 0 <= source < 5 and target == 0
                self.assertIs(error_of(webs.joined, [five, one, links]), None if right else InvalidLinks)

    def test_functions_for_any_value_raise_nothing(self):
        for value in WRONG_WEBS + WRONG_LINKS + WRONG_TARGETS + WRONG_ORDERS + WRONG_KINDS:
            self.assertIn(webs.is_web(value), [False, True])
            for kind in KINDS:
                self.assertIs(every.is_forcing_row(CHAIN, kind, value), False)


class Lists(unittest.TestCase):
    def calls(self):
        return [(called, right) for called, right, _ in CASES] + GREAT_CASES

    def test_arguments_stay_as_they_are(self):
        for called, arguments in self.calls():
            before = deepcopy(arguments)
            called(*arguments)
            self.assertEqual(arguments, before)

    def test_all_lists_of_a_result_are_new(self):
        for called, arguments in self.calls():
            given = [id(one) for argument in arguments for one in lists_in(argument)]
            found = lists_in(called(*arguments))
            self.assertEqual(len({id(one) for one in found}), len(found), called)
            self.assertFalse({id(one) for one in found} & set(given), called)

    def test_a_changed_result_changes_nothing_else(self):
        for called, arguments in self.calls():
            before, first, second = deepcopy(arguments), called(*arguments), called(*arguments)
            wanted = deepcopy(first)
            for one in lists_in(first):
                one.insert(0, "changed")
            self.assertEqual(arguments, before)
            self.assertEqual(second, wanted)
            self.assertEqual(called(*arguments), wanted)

    def test_equal_arguments_give_equal_results(self):
        for called, arguments in self.calls():
            self.assertEqual(called(*arguments), called(*deepcopy(arguments)))

    def test_results_may_be_passed_back(self):
        web = webs.joined(STAR, CHAIN, [(1, 0)])
        again = webs.turned(webs.renumbered(webs.with_nudge(web, webs.targets_of(web, 0)), [5, 4, 3, 2, 1, 0]))
        self.assertEqual(again, (6, [(0, 1), (1, 2), (2, 4), (3, 5), (4, 5)], [[5], [2], [3, 4]]))

    def test_a_web_whose_nudges_are_one_list(self):
        same = [0, 1]
        web = (2, [(0, 1)], [same] * 3)
        for result in [webs.turned(web), webs.with_pair(web, 1, 1), webs.without_pair(web, 0, 1),
                       webs.with_nudge(web, same), webs.without_nudge(web, 1), webs.renumbered(web, [1, 0]),
                       webs.joined(web, web, [])]:
            result[2][0].append("changed")
            self.assertNotIn("changed", [one for nudge in result[2][1:] for one in nudge])
            self.assertEqual(same, [0, 1])


class Kinds(unittest.TestCase):
    """The kinds of the results are just those that the document names."""

    def assert_integers(self, values):
        self.assertTrue(all(type(value) is int for value in values))

    def test_webs(self):
        for called, arguments in [(called, right) for called, right, _ in CASES] + GREAT_CASES:
            result = called(*arguments)
            name = called.__name__
            if name in ("is_web", "is_forcing_row", "reaches_every"):
                self.assertIs(type(result), bool)
            elif name in ("targets_of", "sources_of", "left_open"):
                self.assertIs(type(result), list)
                self.assert_integers(result)
            elif name in ("lines_of", "forcing_row"):
                self.assertIn(type(result), (list, type(None)))
                self.assertEqual({type(one) for one in result or [()]}, {tuple})
                self.assert_integers(number for one in result or [] for number in one)
            elif name == "rounds":
                self.assertIs(type(result), list)
                self.assert_integers(number for one in result for number in one)
            else:
                self.assertIs(type(result), tuple)
                self.assertTrue(webs.is_web(result))


if __name__ == "__main__":
    unittest.main()
