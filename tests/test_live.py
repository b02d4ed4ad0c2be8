"""Point 28: live webs, and points 2 and 3 for their methods."""

import unittest
from copy import deepcopy
from itertools import product

from nudgewebs.errors import InvalidChange, InvalidNudge, InvalidNumber, InvalidQuantity, InvalidTargets, InvalidWeb
from nudgewebs.errors import LineThere, NoLine, NothingToUndo, TooLarge, WebError
from nudgewebs.every import reaches_every
from nudgewebs.live import LiveWeb
from nudgewebs.some import most
from tests.samples import BARE, CHAIN, FULL, LEAST, LONG, LOOP, ODD_VALUES, PAIR, SAMPLES, STAR, STUCK, TWINS
from tests.samples import greatest_size, lists_in, mixed_web, numbers_from
from tests.wrong import WRONG_QUANTITIES, WRONG_TARGETS, WRONG_WEBS

EVERY = list(range(20))
WRONG_NUDGES = ODD_VALUES + [1, 2, 3, "0", [0], (0,)]
# For the star: a right change and wrong values for each of its items.
CALLS = [
    (("link", 1, 2), [(InvalidQuantity, WRONG_QUANTITIES), (InvalidQuantity, WRONG_QUANTITIES)]),
    (("cut", 0, 2), [(InvalidQuantity, WRONG_QUANTITIES), (InvalidQuantity, WRONG_QUANTITIES)]),
    (("attach", [0, 2]), [(InvalidTargets, WRONG_TARGETS)]),
    (("detach", 0), [(InvalidNudge, WRONG_NUDGES)]),
]
WRONG_CHANGES = ODD_VALUES + [
    "link", ("link",), ("link", 0), ("link", 0, 1, 2), ["link", 0, 1], ("cut",), ("cut", 0), ("cut", 0, 1, 2), ("attach",),
    ("attach", [0], [1]), ["attach", [0]], ("detach",), ("detach", 0, 0), ("undo",), ("undo_to", 0), ("tried",), ("twin",),
    ("Link", 0, 1), (" link", 0, 1), (b"link", 0, 1), (None, 0, 1), (("link",), 0, 1), (["link"], 0, 1), ({}, 0),
    (0, 1, 2), ("", 0), (), ("most",), ("link", (0, 1)), {"link": (0, 1)}, [("link", 0, 1)], (("link", 0, 1),),
    ("web", STAR), ("attach", 0, 2),
]


def outcome(called, *arguments):
    """The result of a call, or the class of the error that it raises."""
    try:
        return called(*arguments)
    except WebError as error:
        return type(error)


def call(live, change):
    return getattr(live, change[0])(*change[1:])


def changed(web, change):
    """The web behind a change, or the class of the error that is to be raised."""
    count, pairs, nudges = web
    word, item = change[:2]
    if word in ("link", "cut"):
        if not all(type(one) is int and 0 <= one < count for one in change[1:]):
            return InvalidQuantity
        there = change[1:] in pairs
        if word == "link":
            return LineThere if there else (count, sorted([*pairs, change[1:]]), nudges)
        return (count, [pair for pair in pairs if pair != change[1:]], nudges) if there else NoLine
    if word == "attach":
        if item == [] or item != sorted(set(item) & set(range(count))):
            return InvalidTargets
        return TooLarge if len(nudges) == 8 else (count, pairs, [*nudges, item])
    if item not in range(len(nudges)):
        return InvalidNudge
    return (count, pairs, nudges[:item] + nudges[item + 1:])


def mixed_change(numbers, web):
    """Some change for a web; a few of them are wrong."""
    count, pairs, nudges = web
    word = ["link", "cut", "attach", "detach"][next(numbers) % 4]
    if word == "attach":
        return (word, [at for at in range(count + next(numbers) % 8 // 7) if next(numbers) % 3 == 0])
    if word == "detach":
        return (word, next(numbers) % (len(nudges) + 1) - next(numbers) % 9 // 8)
    if word == "cut" and pairs and next(numbers) % 4:
        return (word, *pairs[next(numbers) % len(pairs)])
    return (word, next(numbers) % (count + next(numbers) % 9 // 8), next(numbers) % count)


class Kept(unittest.TestCase):
    """Each call beside a list of webs that is kept here."""

    def assert_like(self, live, webs, log):
        self.assertEqual([live.web, live.log, len(live)], [webs[-1], log, len(log)])
        self.assertEqual(live.most, most(webs[-1]))
        self.assertIs(live.is_sure, reaches_every(webs[-1]))

    def walk(self, seed, web, calls):
        numbers, live, webs, log = numbers_from(seed), LiveWeb(web), [web], []
        seen = set()
        for _ in range(calls):
            self.assertEqual(len(webs), len(log) + 1)
            luck = next(numbers) % 12
            if luck == 0:
                seen.add(self.step_back(live, webs, log))
            elif luck == 1:
                number = next(numbers) % (len(log) + 3) - 1
                seen.add(self.step_back_to(live, webs, log, number))
            else:
                change = mixed_change(numbers, webs[-1])
                wanted = changed(webs[-1], change)
                found = outcome(call, live, change)
                if isinstance(wanted, tuple):
                    webs.append(wanted)
                    log.append(change)
                    self.assertEqual(found, most(wanted))
                    if wanted[0] < 5:
                        self.assertEqual(found, greatest_size(wanted))
                    seen.add(change[0])
                else:
                    self.assertIs(found, wanted, (webs[-1], change))
                    seen.add(wanted)
            self.assert_like(live, webs, log)
        return seen

    def step_back(self, live, webs, log):
        if not log:
            self.assertIs(outcome(live.undo), NothingToUndo)
            return NothingToUndo
        webs.pop()
        log.pop()
        self.assertEqual(live.undo(), most(webs[-1]))
        return "undo"

    def step_back_to(self, live, webs, log, number):
        if not 0 <= number <= len(log):
            self.assertIs(outcome(live.undo_to, number), InvalidNumber)
            return InvalidNumber
        del webs[number + 1:]
        del log[number:]
        self.assertEqual(live.undo_to(number), most(webs[-1]))
        return "undo_to"

    def test_call_by_call(self):
        seen = set()
        for at, web in enumerate([STAR, CHAIN, PAIR, LEAST, LOOP, STUCK, TWINS, (4, [], [[0]] * 7)] * 3):
            seen |= self.walk(347 + at, web, 90)
        self.assertEqual(seen, {"link", "cut", "attach", "detach", "undo", "undo_to", InvalidQuantity, InvalidTargets,
                                InvalidNudge, InvalidNumber, LineThere, NoLine, TooLarge, NothingToUndo})

    def test_twenty_quantities(self):
        numbers = numbers_from(349)
        for at, web in enumerate([FULL, BARE, LONG, mixed_web(numbers, 20, 4, 8)]):
            self.walk(353 + at, web, 60)

    def test_a_hundred_changes_made_and_taken_back(self):
        for web, links in [(BARE, [(at, 7 * at % 19) for at in range(20)] + [(at, 7 * at % 19 + 1) for at in range(20)]),
                           ((20, [], [[0]]), [(at, at + 1) for at in range(19)] + [(at + 1, at) for at in range(19)])]:
            live, webs = LiveWeb(web), [web]
            changes = [("attach", EVERY[at:at + 5]) for at in range(8 - len(web[2]))] + [("link", *pair) for pair in links]
            changes += [("detach", 3), ("attach", [19])] + [("cut", *pair) for pair in links[::-1]] + [("detach", 0)] * 8
            changes = (changes + [("link", at, at) for at in range(20)])[:100]
            self.assertEqual(len(changes), 100)
            for change in changes:
                webs.append(changed(webs[-1], change))
                self.assertEqual(call(live, change), most(webs[-1]))
            self.assert_like(live, webs, changes)
            for at in range(99, -1, -1):
                self.assertEqual(live.undo(), most(webs[at]))
                self.assertEqual(live.web, webs[at])
                self.assertEqual(len(live), at)
            self.assertEqual([live.log, live.web], [[], web])
            self.assertRaises(NothingToUndo, live.undo)


class Undo(unittest.TestCase):
    def test_a_nudge_has_its_old_number(self):
        web = (4, [(0, 1)], [[0], [1, 2], [3], [0, 3]])
        for nudge in range(4):
            live = LiveWeb(web)
            live.detach(nudge)
            self.assertEqual(live.web[2], web[2][:nudge] + web[2][nudge + 1:])
            live.link(3, 3)
            live.undo()
            self.assertEqual(live.undo(), most(web))
            self.assertEqual(live.web, web)

    def test_undo_to(self):
        live = LiveWeb(STAR)
        webs = [STAR]
        for change in [("link", 1, 2), ("attach", [1, 2]), ("detach", 0), ("cut", 0, 1)]:
            call(live, change)
            webs.append(live.web)
        log = live.log
        self.assertEqual(live.undo_to(4), most(webs[4]))
        self.assertEqual([live.web, live.log], [webs[4], log])
        self.assertEqual(live.undo_to(3), most(webs[3]))
        self.assertEqual([live.web, live.log], [webs[3], log[:3]])
        for number in [4, 5, -1, True, False, None, "0", [0], 10 ** 29, -10 ** 29, (), {}]:
            self.assertRaises(InvalidNumber, live.undo_to, number)
        self.assertEqual([live.web, live.log], [webs[3], log[:3]])
        self.assertEqual(live.undo_to(0), 2)
        self.assertEqual([live.web, live.log, len(live)], [STAR, [], 0])
        self.assertEqual(live.undo_to(0), 2)
        self.assertRaises(InvalidNumber, live.undo_to, 1)

    def test_undo_is_not_undone(self):
        live = LiveWeb(STAR)
        live.link(1, 2)
        live.undo()
        self.assertRaises(NothingToUndo, live.undo)
        self.assertEqual([live.web, live.log], [STAR, []])

    def test_what_is_left_can_still_be_taken_back(self):
        live = LiveWeb(STAR)
        live.link(1, 2)
        live.attach([2])
        live.undo()
        live.cut(0, 2)
        self.assertEqual(live.log, [("link", 1, 2), ("cut", 0, 2)])
        self.assertEqual([live.undo(), live.web], [3, (3, [(0, 1), (0, 2), (1, 2)], [[0]])])
        self.assertEqual([live.undo(), live.web], [2, STAR])


class Errors(unittest.TestCase):
    def test_a_wrong_web(self):
        for web in WRONG_WEBS:
            self.assertIs(outcome(LiveWeb, web), InvalidWeb, web)

    def test_each_wrong_argument_alone(self):
        for change, parameters in CALLS:
            for at, (error, values) in enumerate(parameters):
                for value in values:
                    wrong = change[:at + 1] + (value,) + change[at + 2:]
                    before, live = deepcopy(wrong), LiveWeb(STAR)
                    self.assertIs(outcome(call, live, wrong), error, wrong)
                    self.assertEqual([wrong, live.web, live.log], [before, STAR, []])

    def test_several_wrong_arguments(self):
        for first, second in product([-1, 3, True, None, "0"], repeat=2):
            for word in ["link", "cut"]:
                self.assertIs(outcome(call, LiveWeb(STAR), (word, first, second)), InvalidQuantity)

    def test_errors_that_are_listed_come_behind_those_of_parameters(self):
        self.assertIs(outcome(LiveWeb(STAR).link, 0, 1), LineThere)
        self.assertIs(outcome(LiveWeb(STAR).link, 0, True), InvalidQuantity)
        self.assertIs(outcome(LiveWeb(STAR).cut, 1, 0), NoLine)
        self.assertIs(outcome(LiveWeb(STAR).cut, 1, 3), InvalidQuantity)
        self.assertIs(outcome(LiveWeb(FULL).attach, [0]), TooLarge)
        self.assertIs(outcome(LiveWeb(FULL).attach, []), InvalidTargets)
        self.assertIs(outcome(LiveWeb(BARE).detach, 0), InvalidNudge)
        with self.assertRaises(TooLarge) as caught:
            LiveWeb(FULL).attach([3])
        self.assertEqual(caught.exception.limit, 8)

    def test_a_call_that_raises_an_error_changes_nothing(self):
        live = LiveWeb(STAR)
        live.link(1, 2)
        live.detach(0)
        live.undo()
        state = [live.web, live.log, live.most, live.is_sure, len(live)]
        for change in [("link", 0, 1), ("link", 3, 0), ("cut", 2, 2), ("cut", 0, -1), ("attach", []), ("attach", [2, 1]),
                       ("detach", 1), ("detach", False), ("undo_to", 2), ("undo_to", -1), ("tried", ("link", 0, 1)),
                       ("tried", ("link", 2, 2), ("cut", 2, 1)), ("tried", None)]:
            self.assertTrue(issubclass(outcome(call, live, change), WebError), change)
            self.assertEqual([live.web, live.log, live.most, live.is_sure, len(live)], state)
        self.assertEqual([live.undo(), live.web], [2, STAR])
        self.assertRaises(NothingToUndo, live.undo)
        self.assertEqual(live.web, STAR)


class Tried(unittest.TestCase):
    def test_none(self):
        for web in SAMPLES:
            self.assertEqual(LiveWeb(web).tried(), [])

    def test_twelve_changes(self):
        live = LiveWeb((4, [], [[0]]))
        live.link(3, 3)
        changes = [("link", 0, 1), ("link", 1, 2), ("link", 2, 3), ("cut", 3, 3), ("attach", [2]), ("cut", 1, 2),
                   ("detach", 0), ("attach", [0]), ("attach", [0, 1, 2, 3]), ("cut", 0, 1), ("detach", 1), ("detach", 1)]
        web, wanted, before = live.web, [], deepcopy(changes)
        for change in changes:
            web = changed(web, change)
            wanted.append(most(web))
        self.assertEqual(live.tried(*changes), wanted)
        self.assertEqual(live.tried(*changes), wanted)
        self.assertEqual(changes, before)
        self.assertEqual([live.web, live.log], [(4, [(3, 3)], [[0]]), [("link", 3, 3)]])

    def test_mixed_changes(self):
        numbers, found = numbers_from(359), {"results": 0, "errors": 0}
        for at in range(300):
            start = web = mixed_web(numbers, 2 + at % 4, 2 + at % 3, 3)
            live, changes, wanted = LiveWeb(web), [], []
            for _ in range(next(numbers) % 5):
                changes.append(mixed_change(numbers, web))
                behind = changed(web, changes[-1])
                if not isinstance(behind, tuple):
                    wanted = behind
                    break
                web = behind
                wanted.append(most(web))
            found["results" if isinstance(wanted, list) else "errors"] += 1
            self.assertEqual(outcome(live.tried, *changes), wanted, (start, changes))
            self.assertEqual([live.web, live.log], [start, []])
        self.assertGreater(min(found.values()), 50)

    def test_wrong_changes_come_ahead_of_all_errors_of_the_calls(self):
        for value in WRONG_CHANGES:
            live = LiveWeb(STAR)
            for changes in [(value,), (("link", 1, 2), value), (("link", 0, 1), value), (value, ("link", 0, 1)),
                            (("detach", 5), value, ("cut", 9, 9)), (("attach", None),) * 11 + (value,)]:
                before = deepcopy(changes)
                self.assertIs(outcome(live.tried, *changes), InvalidChange, changes)
                self.assertEqual(changes, before)
            self.assertEqual([live.web, live.log], [STAR, []])

    def test_the_error_of_the_first_call_that_raises_one(self):
        live = LiveWeb(STAR)
        for error, changes in [(LineThere, [("link", 0, 1), ("cut", 1, 0), ("detach", 9)]),
                               (NoLine, [("cut", 0, 1), ("cut", 0, 1), ("link", 0, 2)]),
                               (InvalidNudge, [("detach", 0), ("detach", 0), ("link", 0, 1)]),
                               (InvalidQuantity, [("link", 1, 1), ("link", 3, None), ("attach", [])]),
                               (InvalidTargets, [("attach", [0]), ("attach", (0,)), ("link", 0, 1)]),
                               (TooLarge, [("attach", [0])] * 8 + [("detach", 8)])]:
            self.assertIs(outcome(live.tried, *changes), error, changes)
            self.assertEqual([live.web, live.log, len(live)], [STAR, [], 0])

    def test_items_of_any_kind(self):
        for change, parameters in CALLS:
            for at, (error, values) in enumerate(parameters):
                for value in values:
                    wrong = change[:at + 1] + (value,) + change[at + 2:]
                    self.assertIs(outcome(LiveWeb(STAR).tried, wrong), error, wrong)

    def test_twenty_quantities(self):
        live = LiveWeb(FULL)
        self.assertEqual(live.tried(*[("detach", 0)] * 8, ("attach", EVERY), ("cut", 19, 19)), [20] * 7 + [0, 20, 20])
        self.assertEqual([live.web, live.log], [FULL, []])


class Twin(unittest.TestCase):
    def test_goes_its_own_way(self):
        live = LiveWeb(STAR)
        live.link(1, 2)
        twin = live.twin()
        self.assertEqual([twin.web, twin.log, twin.most, twin.is_sure, len(twin)],
                         [live.web, live.log, live.most, live.is_sure, 1])
        self.assertIs(twin == live, True)
        twin.attach([2])
        live.cut(0, 1)
        self.assertEqual([live.web, live.log], [(3, [(0, 2), (1, 2)], [[0]]), [("link", 1, 2), ("cut", 0, 1)]])
        self.assertEqual([twin.web, twin.log], [(3, [(0, 1), (0, 2), (1, 2)], [[0], [2]]), [("link", 1, 2), ("attach", [2])]])
        self.assertEqual([twin.undo(), twin.undo(), twin.web, len(live)], [3, 2, STAR, 2])
        self.assertRaises(NothingToUndo, twin.undo)
        self.assertEqual([live.undo(), live.undo(), live.web], [3, 2, STAR])

    def test_a_twin_of_a_twin(self):
        live = LiveWeb(FULL)
        other = live.twin().twin()
        other.detach(7)
        self.assertEqual([live.web, len(live), len(other)], [FULL, 0, 1])


class Equal(unittest.TestCase):
    def test_equal_webs_and_unlike_logs(self):
        live, other = LiveWeb(STAR), LiveWeb(STAR)
        live.link(1, 2)
        self.assertIs(live == other, False)
        self.assertIs(live != other, True)
        other.attach([1])
        other.link(1, 2)
        other.detach(1)
        self.assertIs(live == other, True)
        self.assertIs(live != other, False)
        live.undo()
        self.assertIs(live == LiveWeb(STAR), True)

    def test_unlike_webs(self):
        for web in SAMPLES:
            for other in SAMPLES:
                self.assertIs(LiveWeb(web) == LiveWeb(other), web == other)
        self.assertIs(LiveWeb((1, [], [[0]])) == LiveWeb((1, [], [[0]] * 2)), False)
        self.assertIs(LiveWeb((2, [], [[0], [1]])) == LiveWeb((2, [], [[1], [0]])), False)

    def test_any_other_value(self):
        live = LiveWeb(STAR)
        for value in [STAR, *ODD_VALUES, live.web, live.log, object(), LiveWeb]:
            self.assertIs(live == value, False)
            self.assertIs(value == live, False)
            self.assertIs(live != value, True)


class Copies(unittest.TestCase):
    def test_the_web_that_is_passed_is_copied(self):
        web = deepcopy(TWINS)
        live = LiveWeb(web)
        self.assertEqual(web, TWINS)
        for one in lists_in(web):
            one.append("changed")
        self.assertEqual(live.web, TWINS)
        live.link(0, 1)
        self.assertEqual(live.undo(), most(TWINS))
        self.assertEqual(live.web, TWINS)

    def test_targets_that_are_passed_are_copied(self):
        live, targets = LiveWeb(STAR), [1, 2]
        live.attach(targets)
        self.assertEqual(targets, [1, 2])
        targets.append(7)
        self.assertEqual([live.web[2], live.log], [[[0], [1, 2]], [("attach", [1, 2])]])

    def test_what_is_returned_may_be_changed(self):
        live = LiveWeb(STAR)
        live.attach([1, 2])
        live.link(1, 1)
        live.attach([1, 2])
        web, log = deepcopy(live.web), deepcopy(live.log)
        for read in [lambda: live.web, lambda: live.log, lambda: live.tried(("link", 2, 2), ("attach", [0])),
                     lambda: live.twin().web, lambda: live.twin().log]:
            first, second = read(), read()
            wanted = deepcopy(first)
            self.assertEqual(len({id(one) for one in lists_in(first) + lists_in(second)}), 2 * len(lists_in(first)))
            for one in lists_in(first):
                one.insert(0, "changed")
            self.assertEqual([second, read()], [wanted, wanted])
            self.assertEqual([live.web, live.log], [web, log])
        live.undo()
        self.assertEqual(live.log, log[:2])

    def test_a_web_whose_nudges_are_one_list(self):
        same = [0, 1]
        live = LiveWeb((2, [(0, 1)], [same] * 3))
        self.assertEqual(len({id(one) for one in live.web[2]}), 3)
        live.attach(same)
        live.attach(same)
        live.web[2][0].append("changed")
        self.assertEqual([live.web[2], live.log], [[[0, 1]] * 5, [("attach", [0, 1])] * 2])

    def test_kinds(self):
        live = LiveWeb(STAR)
        for found in [live.link(1, 2), live.cut(1, 2), live.attach([0]), live.detach(1), live.undo(), live.undo_to(1), live.most,
                      len(live), *live.tried(("link", 1, 1))]:
            self.assertIs(type(found), int)
        self.assertIs(type(live.is_sure), bool)
        self.assertEqual([type(live.web), type(live.log), type(live.log[0]), type(live.twin())], [tuple, list, tuple, LiveWeb])

    def test_properties_are_there_from_the_start(self):
        for web in SAMPLES:
            live = LiveWeb(web)
            self.assertEqual([live.web, live.most, live.is_sure, live.log, len(live)],
                             [web, most(web), reaches_every(web), [], 0])

    def test_equal_calls_give_equal_results(self):
        lives = [LiveWeb(deepcopy(LONG)), LiveWeb(LONG)]
        for change in [("cut", 4, 5), ("attach", [3, 9]), ("link", 7, 7), ("detach", 0)]:
            self.assertEqual(*[call(live, change) for live in lives])
        self.assertEqual(lives[0], lives[1])


if __name__ == "__main__":
    unittest.main()
