"""Point 29: the console, and points 2 and 3 for it."""

import unittest

from nudgewebs.console import Console
from nudgewebs.errors import InvalidCommand, InvalidNudge, InvalidQuantity, InvalidTargets, InvalidText, LineThere, NoLine
from nudgewebs.errors import NothingToUndo, TooLarge, WebError
from nudgewebs.every import forcing_row, left_open, reaches_every
from nudgewebs.forts import least_forts
from nudgewebs.further import fewest_single, fewest_wide
from nudgewebs.lines import needed
from nudgewebs.live import LiveWeb
from nudgewebs.pairings import loose
from nudgewebs.some import most, reaches_some
from nudgewebs.texts import show_web
from nudgewebs.ways import unreached
from tests.samples import BARE, CHAIN, FULL, KINDS, LEAST, LONG, ODD_VALUES, PAIR, SAMPLES, STAR, STUCK, mixed_web
from tests.samples import nested, numbers_from, small_webs

THIRTY, MORE = "9" * 30, "9" * 31
ASKED = ["text", "most", "sure", "some", "apart", "loose", "wide", "single", "needed", "row still", "row steady",
         "open still", "open steady", "forts still", "forts steady"]
PLAIN = ["text", "most", "sure", "some", "apart", "loose", "wide", "single", "needed", "undo"]
OTHERS = ["link 0 1", "cut 0 1", "attach 0", "attach 0,1", "detach 0", "row still", "open steady", "forts still"]
WRONG_COMMANDS = [
    "", " ", "web", "Web 1; -; -", " web 1; -; -", "web;", "webs", "help", "quit", "undo_to 0", "twin", "tried", "log", "LINK 0 1",
    "Most", "most ", " most", "most  ", "most\n", "\nmost", "most 0", "sure still", "some 0", "apart 1", "loose x", "wide 2",
    "single 2", "needed 0", "text 1; -; -", "text ", "undo 1", "undo ", "undo  ", "undo\n", "link", "link ", "link 0", "link 0 ",
    "link  0 1", "link 0  1", "link 0 1 ", "link 0 1 2", "link 0,1", "link 0>1", "link a b", "link 0 -1", "link -1 0", "link +1 0",
    "link 00 1", "link 0 01", f"link {MORE} 0", f"link 0 {MORE}", "link 0\n1", "link 0 1\n", "link 1.0 0", "cut", "cut 0", "cut 0 ",
    "cut 0 1 2", "cut 0,1", "cut  0 1", "cut 0 00", "cut 0 -", f"cut 0 {MORE}", "attach", "attach ", "attach  0", "attach ,",
    "attach 0,", "attach ,0", "attach 0,,1", "attach 0, 1", "attach 0 1", "attach 0 ,1", "attach 00", "attach 0,01", "attach -",
    "attach -1", "attach 0,-1", "attach a", "attach 0,a", f"attach {MORE}", f"attach 0,{MORE}", "attach [0]", "attach 0;1", "detach",
    "detach ", "detach  0", "detach 0 ", "detach 0 1", "detach 0,1", "detach 00", "detach -1", "detach x", f"detach {MORE}",
    "row", "row ", "row Still", "row STEADY", "row still ", "row  still", "row still steady", "row stil", "row 0", "row\nstill",
    "open", "open ", "open all", "open steady ", "open still still", "forts", "forts ", "forts 10", "forts steady 1", "fort still",
]


def outcome(console, command):
    """The answer to a command, or the class of the error that it raises."""
    try:
        return console.execute(command)
    except WebError as error:
        return type(error)


def console_of(web):
    console = Console()
    console.execute("web " + show_web(web))
    return console


def row_of(tuples):
    return " ".join(str(source) + ">" + str(quantity) for source, quantity in tuples) if tuples else "none"


def list_of(quantities):
    return " ".join(str(one) for one in quantities) if quantities else "none"


def lists_of(lists):
    return ", ".join(list_of(one) for one in lists) if lists else "none"


def wanted(web, command):
    """What point 29 says of a command that asks for something."""
    word, *kind = command.split(" ")
    yes = {True: "yes", False: "no"}
    if word == "row":
        return row_of(forcing_row(web, *kind))
    if word == "open":
        return list_of(left_open(web, *kind))
    if word == "forts":
        return TooLarge if web[0] > 10 else lists_of(least_forts(web, *kind))
    return {"text": show_web(web), "most": str(most(web)), "sure": yes[reaches_every(web)], "some": yes[reaches_some(web)],
            "apart": list_of(unreached(web)), "loose": list_of(loose(web)), "wide": str(fewest_wide(web)),
            "single": str(fewest_single(web)), "needed": row_of(needed(web))}[word]


class Asked(unittest.TestCase):
    def test_beside_the_functions(self):
        numbers = numbers_from(367)
        webs = [*small_webs(1, 2, 9), *small_webs(2, 1, 9), *SAMPLES]
        webs += [mixed_web(numbers, 3 + at % 9, 2 + at % 4, 4) for at in range(60)]
        for web in webs:
            console = console_of(web)
            for command in ASKED:
                self.assertEqual(outcome(console, command), wanted(web, command), (web, command))

    def test_examples(self):
        console = console_of(PAIR)
        self.assertEqual([console.execute(command) for command in ASKED],
                         ["3; 0>1 1>0 1>2; -", "0", "no", "no", "0 1 2", "0 2", "1", "1", "none", "none", "none", "0 2",
                          "0 1", "0 2", "0 1"])
        console = console_of(CHAIN)
        self.assertEqual([console.execute(command) for command in ASKED],
                         ["3; 0>1 1>2; 0", "3", "yes", "yes", "none", "none", "0", "0", "0>1 1>2 3>0", "3>0 0>1 1>2",
                          "3>0 0>1 1>2", "none", "none", "none", "none"])

    def test_lists_of_lists(self):
        self.assertEqual(console_of(STUCK).execute("forts still"), "0 1")
        self.assertEqual(console_of((3, [], [])).execute("forts still"), "0, 1, 2")
        self.assertEqual(console_of((4, [(0, 1), (0, 2), (0, 3)], [[0]])).execute("forts still"), "1 2, 1 3, 2 3")

    def test_at_first(self):
        console = Console()
        self.assertEqual([console.execute(command) for command in ASKED],
                         ["1; -; -", "0", "no", "no", "0", "0", "1", "1", "none", "none", "0>0", "0", "none", "0", "none"])
        self.assertIs(outcome(console, "undo"), NothingToUndo)
        self.assertEqual(console.execute("text"), "1; -; -")

    def test_what_asks_changes_nothing(self):
        for web in [STAR, FULL]:
            console = console_of(web)
            console.execute("cut 0 1")
            text = console.execute("text")
            for command in ASKED:
                outcome(console, command)
                self.assertEqual(console.execute("text"), text)
            console.execute("undo")
            self.assertEqual(console.execute("text"), show_web(web))

    def test_twenty_quantities(self):
        for web in [FULL, BARE, LONG]:
            console = console_of(web)
            for command in ASKED:
                self.assertEqual(outcome(console, command), wanted(web, command))
            for kind in KINDS:
                self.assertIs(outcome(console, "forts " + kind), TooLarge)
        self.assertEqual(console_of(LONG).execute("row still"),
                         "20>0 " + " ".join(f"{at}>{at + 1}" for at in range(19)))


class Changed(unittest.TestCase):
    def test_beside_a_live_web(self):
        numbers, found = numbers_from(373), {}
        for at in range(40):
            web = mixed_web(numbers, 2 + at % 4, 2 + at % 3, 3)
            console, live = console_of(web), LiveWeb(web)
            for _ in range(40):
                a, b, word = next(numbers) % 5, next(numbers) % 5, next(numbers) % 6
                some = [one for one in range(5) if next(numbers) % 4 == 0] or [b, a]
                command, call, arguments = [
                    (f"link {a} {b}", live.link, [a, b]), (f"cut {a} {b}", live.cut, [a, b]),
                    ("attach " + ",".join(map(str, some)), live.attach, [some]), (f"detach {a}", live.detach, [a]),
                    ("undo", live.undo, []), ("undo", live.undo, [])][word]
                try:
                    right = str(call(*arguments))
                except WebError as error:
                    right = type(error)
                self.assertEqual(outcome(console, command), right, command)
                self.assertEqual(console.execute("text"), show_web(live.web))
                found[right if isinstance(right, type) else word] = True
        self.assertLessEqual({0, 1, 2, 3, 4, 5, LineThere, NoLine, InvalidQuantity, InvalidTargets, InvalidNudge,
                              NothingToUndo}, set(found))

    def test_examples(self):
        console = Console()
        commands = ["web 3; 0>1 0>2; 0", "most", "forts still", "row steady", "sure", "link 1 2", "sure", "cut 0 2",
                    "row still", "attach 1,2", "text", "detach 0", "text", "undo", "text", "undo", "undo", "undo", "text"]
        self.assertEqual([console.execute(one) for one in commands],
                         ["ok", "2", "1 2", "3>0 1>1 0>2", "no", "3", "yes", "3", "3>0 0>1 1>2", "3",
                          "3; 0>1 1>2; 0 1,2", "2", "3; 0>1 1>2; 1,2", "3", "3; 0>1 1>2; 0 1,2", "3", "3", "2",
                          "3; 0>1 0>2; 0"])

    def test_undo_until_nothing_is_left(self):
        console = console_of(STAR)
        for command in ["link 1 2", "attach 2", "detach 0", "cut 0 1"]:
            console.execute(command)
        self.assertEqual([outcome(console, "undo") for _ in range(5)], ["1", "3", "3", "2", NothingToUndo])
        self.assertEqual(console.execute("text"), show_web(STAR))

    def test_lists_are_passed_on_as_they_stand(self):
        console = console_of(STAR)
        for command in ["attach 1,0", "attach 0,0", "attach 3", "attach 0,3", f"attach {THIRTY}", f"attach 0,{THIRTY}",
                        "attach 2,1,0"]:
            self.assertIs(outcome(console, command), InvalidTargets, command)
        self.assertEqual([console.execute("attach 0,1,2"), console.execute("text")], ["3", "3; 0>1 0>2; 0 0,1,2"])

    def test_eight_nudges_at_most(self):
        console = console_of(FULL)
        with self.assertRaises(TooLarge) as caught:
            console.execute("attach 0")
        self.assertEqual(caught.exception.limit, 8)
        self.assertEqual([console.execute("detach 7"), console.execute("attach 0"), console.execute("cut 19 19")], ["20"] * 3)
        with self.assertRaises(TooLarge) as caught:
            console.execute("forts still")
        self.assertEqual(caught.exception.limit, 10)


class NewWeb(unittest.TestCase):
    def test_there_and_back(self):
        console = Console()
        for web in [*SAMPLES, *small_webs(2, 1, 9)]:
            self.assertEqual([console.execute("web " + show_web(web)), console.execute("text")], ["ok", show_web(web)])

    def test_the_calls_to_undo_are_gone(self):
        console = console_of(STAR)
        console.execute("link 1 2")
        self.assertEqual(console.execute("web " + show_web(STAR)), "ok")
        self.assertIs(outcome(console, "undo"), NothingToUndo)
        self.assertEqual(console.execute("text"), show_web(STAR))

    def test_a_wrong_text_changes_nothing(self):
        console = console_of(STAR)
        console.execute("link 1 2")
        for text, place in [("", 0), (" ", 0), (" 1; -; -", 0), ("1; -; - ", 2), ("1;  -; -", 1), ("x", 0), ("3", 1), ("3; -", 2),
                            ("0; -; -", 3), ("1; -; -; -", 4), ("web 1; -; -", 0), ("1; -; -\n", 2), ("\n", 0), ("2; 0>2; -", 3)]:
            with self.assertRaises(InvalidText) as caught:
                console.execute("web " + text)
            self.assertEqual(caught.exception.place, place, text)
        self.assertEqual(console.execute("text"), "3; 0>1 0>2 1>2; 0")
        self.assertEqual([console.execute("undo"), console.execute("text")], ["2", show_web(STAR)])

    def test_consoles_are_independent(self):
        first, second = console_of(STAR), Console()
        second.execute("web 2; -; 0,1")
        first.execute("link 1 2")
        self.assertEqual([first.execute("text"), second.execute("text"), Console().execute("text")],
                         ["3; 0>1 0>2 1>2; 0", "2; -; 0,1", "1; -; -"])
        self.assertIs(outcome(second, "undo"), NothingToUndo)


class Wrong(unittest.TestCase):
    def assert_wrong(self, console, values):
        text = console.execute("text")
        for value in values:
            self.assertIs(outcome(console, value), InvalidCommand, value)
            self.assertEqual(console.execute("text"), text)

    def test_values_that_are_no_strings(self):
        odd = [value for value in ODD_VALUES if not isinstance(value, str)]
        for console in [Console(), console_of(STAR), console_of(FULL)]:
            self.assert_wrong(console, odd + [b"most", b"web 1; -; -", ["most"], ("most",), {"most": 0}, 0, 1, None, True])
        for levels in range(1, 20):
            self.assert_wrong(Console(), [nested("most", levels, as_tuple) for as_tuple in [False, True]])

    def test_strings_that_have_none_of_the_forms(self):
        odd = [value for value in ODD_VALUES if isinstance(value, str)]
        for console in [Console(), console_of(STAR), console_of(FULL)]:
            self.assert_wrong(console, WRONG_COMMANDS + odd)
            console.execute("link 0 0" if console.execute("text") != show_web(FULL) else "cut 0 0")
            self.assert_wrong(console, WRONG_COMMANDS)
            self.assertTrue(console.execute("undo").isdigit())

    def test_spaces_and_words_too_many_or_too_few(self):
        for command in PLAIN + OTHERS:
            words = command.split(" ")
            odd = [" " + command, command + " ", "  ".join(words + [""]), command.upper(), command + "x", "x" + command,
                   command + " 0", command + " still", command + ",", command + ";", "-" + command]
            odd += ["  ".join(words), " ".join(words[:-1]), "\n".join(words)] if len(words) > 1 else []
            self.assert_wrong(console_of(STAR), odd)

    def test_each_kind_otherwise(self):
        for word in ["row", "open", "forts"]:
            for kind in ["", "Still", "STEADY", "stil", "still,steady", "both", "0", "steadystill", "yes", "-"]:
                self.assert_wrong(console_of(STAR), [f"{word} {kind}"])

    def test_numbers_of_thirty_digits(self):
        console = console_of(STAR)
        for command, error in [(f"link {THIRTY} 0", InvalidQuantity), (f"link 0 {THIRTY}", InvalidQuantity),
                               (f"cut {THIRTY} {THIRTY}", InvalidQuantity), (f"attach {THIRTY}", InvalidTargets),
                               (f"detach {THIRTY}", InvalidNudge), ("detach 1" + "0" * 29, InvalidNudge),
                               (f"link {MORE} 0", InvalidCommand), (f"link 0 {MORE}", InvalidCommand),
                               (f"cut {MORE} {MORE}", InvalidCommand), (f"attach 0,{MORE}", InvalidCommand),
                               (f"detach {MORE}", InvalidCommand), ("detach 0" + "0" * 29, InvalidCommand)]:
            self.assertIs(outcome(console, command), error, command)
        self.assertEqual(console.execute("text"), show_web(STAR))

    def test_errors_of_the_methods_come_behind(self):
        console = console_of(STAR)
        for command, error in [("link 0 1", LineThere), ("link 3 0", InvalidQuantity), ("link 0 3", InvalidQuantity),
                               ("cut 1 0", NoLine), ("cut 7 7", InvalidQuantity), ("detach 1", InvalidNudge),
                               ("undo", NothingToUndo), ("undo 0", InvalidCommand), ("link 0 1 ", InvalidCommand),
                               ("cut 1 00", InvalidCommand), ("attach 1,0,", InvalidCommand)]:
            self.assertIs(outcome(console, command), error, command)
            self.assertEqual(console.execute("text"), show_web(STAR))

    def test_a_command_that_raises_an_error_is_not_undone(self):
        console = console_of(STAR)
        console.execute("link 2 2")
        for command in ["link 2 2", "cut 1 1", "attach 1,0", "detach 5", "web x", "web 0; -; -", "nothing", None]:
            self.assertTrue(issubclass(outcome(console, command), WebError))
        self.assertEqual([console.execute("undo"), console.execute("text")], ["2", show_web(STAR)])
        self.assertIs(outcome(console, "undo"), NothingToUndo)


class Kinds(unittest.TestCase):
    def test_all_answers_are_strings(self):
        console = console_of(LEAST)
        for command in ["web 3; 0>1 0>2; 0", "link 1 2", "cut 0 2", "attach 0,1", "detach 1", "undo"] + ASKED:
            self.assertIs(type(console.execute(command)), str)

    def test_equal_commands_give_equal_answers(self):
        for web in [STAR, PAIR, LONG]:
            first, second = console_of(web), console_of(web)
            for command in ASKED + ["cut 0 1", "attach 1,2", "undo", "link 0 1"] + ASKED:
                self.assertEqual(outcome(first, command), outcome(second, command))


if __name__ == "__main__":
    unittest.main()
