"""Point 27: the texts of webs."""

import re
import unittest
from copy import deepcopy

from nudgewebs.errors import InvalidText, InvalidWeb, WebError
from nudgewebs.texts import read_web, show_web
from nudgewebs.webs import is_web
from tests.samples import BARE, CHAIN, FULL, LEAST, LONG, LOOP, ODD_VALUES, PAIR, SAMPLES, STAR, STUCK, TWINS, mixed_web
from tests.samples import nested, numbers_from, small_webs
from tests.wrong import WRONG_WEBS

EVERY = list(range(20))
NUMBER = "(0|[1-9][0-9]{0,29})"
# The forms of the three parts, by the words of the point.
PARTS = [NUMBER, f"(-|{NUMBER}>{NUMBER}( {NUMBER}>{NUMBER})*)",
         f"(-|{NUMBER}(,{NUMBER})*( {NUMBER}(,{NUMBER})*)*)"]
THIRTY, MORE = "9" * 30, "9" * 31
RIGHT = [
    "1; -; -", "3; 0>1 0>2; 0", "2; 0>1 1>1; 0,1 1", "20; -; 0,19", "4; 0>0 0>3; -", "1; 0>0; 0 0 0 0 0 0 0 0",
    "12; 9>10 10>9 11>11; 9,10,11 10",
]


def shown_by_words(web):
    """Point 27, word for word."""
    count, pairs, nudges = web
    pair_words = [str(source) + ">" + str(target) for source, target in pairs]
    nudge_words = [",".join(str(target) for target in nudge) for nudge in nudges]
    return str(count) + "; " + (" ".join(pair_words) if pairs else "-") + "; " + (" ".join(nudge_words) if nudges else "-")


def place_by_words(text):
    """The place that a text which is none raises, as the forms above tell; None for the text of a web."""
    parts = text.split("; ")
    for place, (form, part) in enumerate(zip(PARTS, parts)):
        if not re.fullmatch(form, part):
            return place
    if len(parts) != 3:
        return len(parts)
    pairs = [] if parts[1] == "-" else [tuple(map(int, word.split(">"))) for word in parts[1].split(" ")]
    nudges = [] if parts[2] == "-" else [list(map(int, word.split(","))) for word in parts[2].split(" ")]
    return None if is_web((int(parts[0]), pairs, nudges)) else 3


def all_webs():
    numbers = numbers_from(331)
    found = [*small_webs(1, 3, 9), *small_webs(2, 2, 9), *small_webs(3, 1, 4), *SAMPLES]
    return found + [mixed_web(numbers, 11 + at % 10, 1 + at % 9, 8) for at in range(40)]


class There(unittest.TestCase):
    def test_examples(self):
        self.assertEqual([show_web(web) for web in [STAR, CHAIN, PAIR, LEAST, LOOP, STUCK, TWINS, BARE]],
                         ["3; 0>1 0>2; 0", "3; 0>1 1>2; 0", "3; 0>1 1>0 1>2; -", "1; -; -", "1; 0>0; -",
                          "2; 0>0 0>1 1>0 1>1; 0,1", "4; 0>0 0>3 2>1 3>3; 0,2 0,2", "20; -; -"])
        self.assertEqual(read_web("2; 0>1 1>1; 0,1 1"), (2, [(0, 1), (1, 1)], [[0, 1], [1]]))

    def test_there_and_back(self):
        for web in all_webs():
            before = deepcopy(web)
            text = show_web(web)
            self.assertEqual(text, shown_by_words(web))
            again = read_web(text)
            self.assertEqual([again, web], [before, before])
            self.assertEqual(show_web(again), text)
        for text in RIGHT:
            self.assertEqual(show_web(read_web(text)), text)

    def test_all_lists_are_new(self):
        first, second = read_web("2; 0>1; 0 0"), read_web("2; 0>1; 0 0")
        first[1].append("changed")
        first[2][0].append("changed")
        first[2].append("changed")
        self.assertEqual([second, read_web("2; 0>1; 0 0")], [(2, [(0, 1)], [[0], [0]])] * 2)
        self.assertEqual(first[2][1], [0])

    def test_kinds(self):
        for text in RIGHT + [show_web(FULL), show_web(LONG)]:
            count, pairs, nudges = web = read_web(text)
            self.assertEqual([type(web), type(count), type(pairs), type(nudges)], [tuple, int, list, list])
            self.assertEqual({type(pair) for pair in pairs} | {type(nudge) for nudge in nudges} | {tuple, list},
                             {tuple, list})
            self.assertTrue(all(type(nudge) is list for nudge in nudges) and all(type(one) is tuple for one in pairs))

    def test_the_greatest_web(self):
        text = show_web(FULL)
        self.assertEqual([len(text.split("; ")[1].split(" ")), len(text.split("; ")[2].split(" "))], [400, 8])
        self.assertEqual(read_web(text), FULL)
        self.assertLessEqual(len(text), 4000)

    def test_no_webs(self):
        for web in WRONG_WEBS:
            self.assertRaises(InvalidWeb, show_web, web)


class Wrong(unittest.TestCase):
    def assert_place(self, place, *texts):
        for text in texts:
            with self.assertRaises(InvalidText) as caught:
                read_web(text)
            self.assertEqual(caught.exception.place, place, text)

    def test_values_that_are_no_strings(self):
        odd = [value for value in ODD_VALUES if not isinstance(value, str)]
        self.assert_place(None, *odd, None, True, 0, 3, -1, b"1; -; -", ["1; -; -"], ("1; -; -",), STAR, {"1; -; -": 0})
        self.assert_place(None, *[nested("1; -; -", levels, as_tuple) for levels in range(1, 20) for as_tuple in (0, 1)])

    def test_the_first_part(self):
        for part in ["", " ", "-", "+3", "-3", "03", "00", "3 ", " 3", "3.0", "three", "3,", "1>1", MORE, "3\n", "\n3", "1_0",
                     "0x3", "3 3", "3;", ";3", "3:"]:
            self.assert_place(0, part, part + "; 0>1; 0", part + "; x; x", part + "; -; -; -")

    def test_the_second_part(self):
        for part in ["", " ", "0", "0>", ">1", "0>1>2", "0 >1", "0> 1", "0>1  0>2", " 0>1", "0>1 ", "0>1,0>2", "01>2", "0>02",
                     "+0>1", "0>-1", "-0>1", "a>b", "0<1", "0>1 -", "- 0>1", "--", "- ", " -", "- -", "0>1\n", "0>1 \n0>2",
                     MORE + ">1", "0>" + MORE, "0>1;", "0>1;0", "0>1 0", "0>1 >", "0-1", "none"]:
            self.assert_place(1, "3; " + part, "3; " + part + "; 0", "3; " + part + "; x", "3; " + part + "; -; -")

    def test_the_third_part(self):
        for part in ["", " ", ",", "0,", ",0", "0,,1", "0, 1", "0 ,1", "0  1", " 0", "0 ", "00", "01", "0,01", "+0", "-1", "0,-1",
                     "a", "0;1", "0>1", "0 -", "- 0", "--", "-,0", "0,-", "- -", "0\n", "\n", MORE, "0," + MORE, "none", "0.1", ";"]:
            self.assert_place(2, "3; 0>1; " + part, "3; -; " + part, "3; 0>1; " + part + "; -", "99; 5>1; " + part)

    def test_a_semicolon_without_a_space(self):
        self.assert_place(0, "1;-;-", "1;-; -", "1 ; -; -")
        self.assert_place(1, "1; -;-", "1; - ; -", "1;  -; -")
        self.assert_place(2, "1; -;  -", "1; -; -;", "1; -; - ", "1; -; -;-")

    def test_one_part_and_two_parts(self):
        self.assert_place(1, "0", "1", "3", "20", "21", THIRTY)
        self.assert_place(2, "3; -", "3; 0>1", "0; -", "3; 5>1", "3; 1>0 0>1", f"{THIRTY}; {THIRTY}>{THIRTY}")

    def test_four_parts_and_more(self):
        self.assert_place(4, "1; -; -; -", "1; -; -; ", "3; 0>1; 0; 0", "3; 0>1; 0; x", "0; -; -; -", "1; -; -; \n")
        self.assert_place(5, "1; -; -; -; -", "1; -; -; ; ", "21; 5>5; 7; 8; 9")
        self.assert_place(11, "1; -; -" + "; x" * 8)
        self.assert_place(2, "1; -; x; -", "1; -; ; ")

    def test_right_forms_of_no_web(self):
        self.assert_place(3, "0; -; -", "21; -; -", THIRTY + "; -; -", "3; 1>0 0>1; 0", "3; 0>1 0>1; 0", "3; 0>3; 0",
                          "3; 3>0; 0", f"3; {THIRTY}>0; 0", f"3; 0>1; {THIRTY}", "3; 0>1; 3", "3; 0>1; 1,0", "3; 0>1; 0,0",
                          "3; 0>1; 0,3", "1; -; 0 0 0 0 0 0 0 0 0", "1; 0>0 0>0; -", "20; -; 20", "2; 0>2; -")

    def test_numbers_of_thirty_digits_have_the_right_form(self):
        for text, place in [(THIRTY, 1), (MORE, 0), (f"1; {THIRTY}>0", 2), (f"1; {MORE}>0", 1), (f"1; 0>{THIRTY}; 0", 3),
                            (f"1; 0>{MORE}; 0", 1), (f"1; -; 0,{THIRTY}", 3), (f"1; -; 0,{MORE}", 2), ("1" + "0" * 29, 1),
                            ("1" + "0" * 30, 0)]:
            self.assert_place(place, text)

    def test_each_change_of_one_character(self):
        found = {place: 0 for place in [None, 0, 1, 2, 3, 4]}
        for text in RIGHT:
            for at in range(len(text) + 1):
                for one in ["", "0", "1", "7", " ", "-", ">", ",", ";", "; ", "\n", "+", "x"]:
                    for other in [text[:at] + one + text[at:], text[:at] + one + text[at + 1:]]:
                        place = place_by_words(other)
                        found[place] += 1
                        if place is None:
                            self.assertEqual(show_web(read_web(other)), other)
                        else:
                            self.assert_place(place, other)
        self.assertGreater(min(found.values()), 10, found)

    def test_strings_of_all_kinds(self):
        numbers = numbers_from(337)
        signs = "0012 9-;; >,\n~Az"
        for length in range(60):
            for _ in range(20):
                text = "".join(signs[next(numbers) % len(signs)] for _ in range(length))
                self.assert_place(place_by_words(text), text)
        self.assert_place(0, "x" * 4000, " " * 4000, "\n" * 4000, "9" * 4000, "-" * 4000, "; " * 2000)
        self.assert_place(4 + 1332, "1; -; -" + "; 1" * 1333)

    def test_only_this_error(self):
        for value in ODD_VALUES:
            try:
                read_web(value)
                self.fail(value)
            except WebError as error:
                self.assertIs(type(error), InvalidText)


if __name__ == "__main__":
    unittest.main()
