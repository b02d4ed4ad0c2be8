"""Points 2 and 3: errors of parameters, and arguments and results that share no lists."""

import unittest
from copy import deepcopy
from itertools import product

from nudgewebs import every, fillings, forts, further, lines, pairings, seen, some, texts, ways, webs
from nudgewebs.errors import InvalidFilling, InvalidFort, InvalidGiven, InvalidHill, InvalidKind, InvalidLinks
from nudgewebs.errors import InvalidNudge, InvalidQuantity, InvalidSource, InvalidState, InvalidTargets, InvalidWeb
from nudgewebs.errors import LineThere, NoLine, TooLarge, WebError
from tests.cases import CASES, GREAT_CASES, RESULTS
from tests.kinds import is_bool
from tests.samples import BARE, CHAIN, FULL, KINDS, LOOP, ODD_VALUES, PAIR, SAMPLES, STAR, filled, lists_in
from tests.wrong import WRONG_FILLINGS, WRONG_FORTS, WRONG_HILLS, WRONG_KINDS, WRONG_LINKS, WRONG_ORDERS, WRONG_ROWS
from tests.wrong import WRONG_STATES, WRONG_TARGETS, WRONG_WEBS

MODULES = [webs, every, forts, fillings, ways, pairings, some, further, lines, seen, texts]


def error_of(called, arguments):
    """The class of the error that a call raises."""
    try:
        called(*arguments)
    except WebError as error:
        return type(error)
    return None


class Parameters(unittest.TestCase):
    def test_right_arguments_raise_nothing(self):
        for called, right, parameters in CASES:
            self.assertIsNone(error_of(called, right), called)
            self.assertEqual(len(right), len(parameters))

    def test_each_wrong_argument_alone(self):
        for called, right, parameters in CASES:
            for at, (error, values) in enumerate(parameters):
                for value in values:
                    arguments = right[:at] + [value] + right[at + 1:]
                    before = deepcopy(arguments)
                    self.assertIs(error_of(called, arguments), error, (called, at, value))
                    self.assertEqual(arguments, before)

    def test_the_first_wrong_argument_of_several(self):
        for called, right, parameters in CASES:
            choices = [[False, True] if values else [False] for _, values in parameters]
            for wrong in product(*choices):
                if any(wrong):
                    first = parameters[wrong.index(True)][0]
                    for at in range(len(ODD_VALUES)):
                        arguments = [parameters[k][1][(at + 7 * k) % len(parameters[k][1])] if bad else right[k]
                                     for k, bad in enumerate(wrong)]
                        self.assertIs(error_of(called, arguments), first, (called, arguments))

    def test_errors_that_are_listed_come_behind_those_of_parameters(self):
        self.assertIs(error_of(webs.with_pair, [STAR, 0, 1]), LineThere)
        self.assertIs(error_of(webs.with_pair, [STAR, 0, True]), InvalidQuantity)
        self.assertIs(error_of(webs.with_pair, [STAR, False, 1]), InvalidQuantity)
        self.assertIs(error_of(webs.without_pair, [STAR, 1, 0]), NoLine)
        self.assertIs(error_of(webs.without_pair, [STAR, True, 0]), InvalidQuantity)
        self.assertIs(error_of(webs.with_nudge, [FULL, [0]]), TooLarge)
        self.assertIs(error_of(webs.with_nudge, [FULL, [20]]), InvalidTargets)
        self.assertIs(error_of(webs.with_nudge, [FULL, []]), InvalidTargets)
        self.assertIs(error_of(webs.joined, [FULL, BARE, []]), TooLarge)
        self.assertIs(error_of(webs.joined, [FULL, BARE, [(0, 20)]]), InvalidLinks)
        self.assertIs(error_of(webs.joined, [FULL, None, None]), InvalidWeb)
        self.assertIs(error_of(forts.least_forts, [FULL, "still"]), TooLarge)
        self.assertIs(error_of(forts.least_forts, [FULL, "Still"]), InvalidKind)
        self.assertIs(error_of(forts.least_forts, [list(FULL), "still"]), InvalidWeb)
        self.assertIs(error_of(forts.least_forts, [None, None]), InvalidWeb)
        for called in [further.fewest_sure, further.sure_nudges]:
            self.assertIs(error_of(called, [FULL]), TooLarge)
            self.assertIs(error_of(called, [list(FULL)]), InvalidWeb)
            self.assertIs(error_of(called, [(11, [(0, 11)], [])]), InvalidWeb)

    def test_limits_are_those_of_the_web(self):
        for web in SAMPLES:
            count, many = web[0], len(web[2])
            for called, error, limit in [(webs.targets_of, InvalidSource, count + many),
                                         (webs.sources_of, InvalidQuantity, count),
                                         (ways.way_to, InvalidQuantity, count),
                                         (webs.without_nudge, InvalidNudge, many)]:
                for value in range(-30, 31):
                    wanted = None if 0 <= value < limit else error
                    self.assertIs(error_of(called, [web, value]), wanted, (called, web, value))

    def test_as_many_numbers_as_the_web_asks_for(self):
        for web in SAMPLES:
            count, many = web[0], len(web[2])
            filling = filled(web, [1] * 560)
            for length in range(31):
                numbers = [5] * length
                wanted = None if length == count else InvalidState
                for called in [fillings.is_reached, fillings.pushes_to]:
                    self.assertIs(error_of(called, [web, filling, numbers]), wanted)
                self.assertIs(error_of(fillings.step, [web, filling, numbers, [5] * many]), wanted)
                self.assertIs(error_of(fillings.run, [web, filling, numbers, []]), wanted)
                self.assertIs(error_of(seen.shown, [web, filling, numbers, 3]), wanted)
                self.assertIs(error_of(fillings.shows_pushes, [web, filling, numbers, None]), wanted)
                wanted = None if length == many else InvalidGiven
                self.assertIs(error_of(fillings.step, [web, filling, [5] * count, numbers]), wanted)
                self.assertIs(error_of(fillings.run, [web, filling, [5] * count, [numbers]]), wanted)

    def test_a_hill_has_as_many_numbers_as_the_web_asks_for(self):
        for web in SAMPLES:
            count, many = web[0], len(web[2])
            for length in range(31):
                wanted = None if length == count else InvalidHill
                self.assertIs(error_of(some.bound_of, [web, ([5] * length, [5] * many)]), wanted)
                wanted = None if length == many else InvalidHill
                self.assertIs(error_of(some.bound_of, [web, ([5] * count, [5] * length)]), wanted)

    def test_from_0_to_60_rows(self):
        for web in SAMPLES:
            filling, state, given = filled(web, [1] * 560), [0] * web[0], [0] * len(web[2])
            for many in [0, 1, 59, 60]:
                self.assertIsNone(error_of(fillings.run, [web, filling, state, [given] * many]))
            for many in [61, 62, 100, 420]:
                self.assertIs(error_of(fillings.run, [web, filling, state, [given] * many]), InvalidGiven)

    def test_a_filling_is_one_of_just_this_web(self):
        for web in SAMPLES:
            for other in SAMPLES:
                filling = filled(other, [1] * 560)
                lengths = [[len(one[1]), *map(len, one[2])] for one in (web, other)]
                wanted = None if lengths[0] == lengths[1] else InvalidFilling
                for called in [fillings.reach_rows, seen.hidden_rows, seen.hidden_dimension, seen.turned_filling]:
                    self.assertIs(error_of(called, [web, filling]), wanted, (web, other))

    def test_a_fort_is_one_of_just_this_web_and_kind(self):
        for called in [forts.fort_filling, lambda *given: forts.shows_fort(*given, filled(given[0], [1] * 560))]:
            for web, kind, fort in [(STAR, "still", [1, 2]), (LOOP, "steady", [0]), (PAIR, "still", [0, 2]),
                                    (PAIR, "steady", [0, 1]), (BARE, "still", [19])]:
                self.assertIsNone(error_of(called, [web, kind, fort]))
                other = KINDS[1 - KINDS.index(kind)]
                self.assertIs(error_of(called, [web, other, fort]), InvalidFort)
                self.assertIs(error_of(called, [CHAIN, kind, fort]), InvalidFort)
                self.assertIs(error_of(called, [web, kind, tuple(fort)]), InvalidFort)
                self.assertIs(error_of(called, [web, kind + " ", fort]), InvalidKind)

    def test_a_link_has_a_quantity_of_the_first_and_one_of_the_second_web(self):
        one, five = (1, [], []), (5, [], [])
        for source in range(-1, 7):
            for target in range(-1, 7):
                links = [(source, target)]
                right = source == 0 and 0 <= target < 5
                self.assertIs(error_of(webs.joined, [one, five, links]), None if right else InvalidLinks)
                right = 0 <= source < 5 and target == 0
                self.assertIs(error_of(webs.joined, [five, one, links]), None if right else InvalidLinks)

    def test_functions_for_any_value_raise_nothing(self):
        odd = [*WRONG_WEBS, *WRONG_LINKS, *WRONG_TARGETS, *WRONG_ORDERS, *WRONG_KINDS, *WRONG_FORTS, *WRONG_FILLINGS,
               *WRONG_STATES, *WRONG_ROWS, *WRONG_HILLS]
        for value in odd:
            self.assertIn(webs.is_web(value), [False, True])
            self.assertIn(pairings.is_pairing(STAR, value), [False, True])
            self.assertIn(pairings.is_gap(STAR, value), [False, True])
            self.assertIs(fillings.is_filling(STAR, value), False)
            self.assertIn(some.is_cover(STAR, value), [False, True])
            self.assertIs(some.is_hill(STAR, value), False)
            self.assertIs(fillings.shows_pushes(STAR, ([4, -4], [[7]]), [1, 1, 1], value), False)
            for kind in KINDS:
                self.assertIs(every.is_forcing_row(CHAIN, kind, value), False)
                self.assertIs(forts.is_fort(CHAIN, kind, value), False)


class Lists(unittest.TestCase):
    def calls(self):
        return [(called, right) for called, right, _ in CASES] + GREAT_CASES

    def test_arguments_stay_as_they_are(self):
        for called, arguments in self.calls():
            before = deepcopy(arguments)
            called(*arguments)
            self.assertEqual(arguments, before)

    def test_all_lists_of_a_result_are_new(self):
        for called, arguments in self.calls():
            given = [id(one) for argument in arguments for one in lists_in(argument)]
            found = lists_in(called(*arguments))
            self.assertEqual(len({id(one) for one in found}), len(found), called)
            self.assertFalse({id(one) for one in found} & set(given), called)

    def test_a_changed_result_changes_nothing_else(self):
        for called, arguments in self.calls():
            before, first, second = deepcopy(arguments), called(*arguments), called(*arguments)
            wanted = deepcopy(first)
            for one in lists_in(first):
                one.insert(0, "changed")
            self.assertEqual(arguments, before)
            self.assertEqual(second, wanted)
            self.assertEqual(called(*arguments), wanted)

    def test_equal_arguments_give_equal_results(self):
        for called, arguments in self.calls():
            self.assertEqual(called(*arguments), called(*deepcopy(arguments)))

    def test_results_may_be_passed_back(self):
        web = webs.joined(STAR, CHAIN, [(1, 0)])
        again = webs.turned(webs.renumbered(webs.with_nudge(web, webs.targets_of(web, 0)), [5, 4, 3, 2, 1, 0]))
        self.assertEqual(again, (6, [(0, 1), (1, 2), (2, 4), (3, 5), (4, 5)], [[5], [2], [3, 4]]))

    def test_a_web_whose_nudges_are_one_list(self):
        same = [0, 1]
        web = (2, [(0, 1)], [same] * 3)
        for result in [webs.turned(web), webs.with_pair(web, 1, 1), webs.without_pair(web, 0, 1),
                       webs.with_nudge(web, same), webs.without_nudge(web, 1), webs.renumbered(web, [1, 0]),
                       webs.joined(web, web, [])]:
            result[2][0].append("changed")
            self.assertNotIn("changed", [one for nudge in result[2][1:] for one in nudge])
            self.assertEqual(same, [0, 1])

    def test_arguments_that_are_one_list(self):
        web, same = (1, [(0, 0)], [[0]]), [3]
        filling = (same, [same])
        self.assertEqual(fillings.step(web, filling, same, same), [18])
        self.assertEqual(fillings.run(web, filling, same, [same] * 2), [[3], [18], [63]])
        self.assertIs(fillings.shows_pushes(web, filling, same, (12, [same] * 2)), True)
        self.assertEqual(same, [3])


class Kinds(unittest.TestCase):
    """The kinds of the results are just those that the document names."""

    def test_each_function_has_cases(self):
        # What a module imports or needs for itself stands in none of these lists.
        listed = {called.__name__ for called, _, _ in CASES}
        self.assertEqual(len(listed), len(CASES))
        for called, _ in GREAT_CASES:
            self.assertIn(called.__name__, listed)
        for called, _, _ in CASES:
            self.assertIn(called.__module__, [module.__name__ for module in MODULES])

    def test_results(self):
        for called, arguments in [(called, right) for called, right, _ in CASES] + GREAT_CASES:
            is_right = RESULTS.get(called, is_bool)
            result = called(*arguments)
            self.assertTrue(is_right(result), (called, result))

    def test_webs(self):
        for called, arguments in [(called, right) for called, right, _ in CASES] + GREAT_CASES:
            if called.__name__ in ("with_pair", "without_pair", "with_nudge", "without_nudge", "turned", "renumbered",
                                   "joined", "read_web"):
                self.assertTrue(webs.is_web(called(*arguments)))


if __name__ == "__main__":
    unittest.main()
