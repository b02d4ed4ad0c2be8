"""Webs as texts [27]."""

from nudgewebs.checks import check_web
from nudgewebs.errors import InvalidText
from nudgewebs.shapes import has_web_shape

MOST_DIGITS = 30
BETWEEN = "; "
NOTHING = "-"


def show_web(web):
    """The text of a web."""
    check_web(web)
    count, pairs, nudges = web
    nudge_words = [",".join(number_words(nudge)) for nudge in nudges]
    parts = [str(count), " ".join(line_words(pairs)) or NOTHING, " ".join(nudge_words) or NOTHING]
    return BETWEEN.join(parts)


def read_web(text):
    """The web that has this text."""
    if not isinstance(text, str):
        raise InvalidText(None)
    parts = text.split(BETWEEN)
    values = []
    for place, part in enumerate(parts[:3]):
        value = part_value(place, part)
        if value is None:
            raise InvalidText(place)
        values.append(value)
    web = tuple(values)
    if len(parts) != 3 or not has_web_shape(web):
        raise InvalidText(len(parts))
    return web


def number_words(numbers):
    """The list of the words for some numbers."""
    return [str(number) for number in numbers]


def line_words(lines):
    """The list of the words for some lines, or tuples of a source and a quantity."""
    return [f"{source}>{target}" for source, target in lines]


def part_value(place, part):
    """What the part of a text at one of the first three places tells, or None if its form is wrong."""
    if place == 0:
        return number_of(part)
    if part == NOTHING:
        return []
    if place == 1:
        return all_or_none([pair_of(word) for word in part.split(" ")])
    return all_or_none([numbers_of(word) for word in part.split(" ")])


def number_of(word):
    """The number that a word is, or None."""
    if not word.isascii() or not word.isdigit() or len(word) > MOST_DIGITS:
        return None
    if word != "0" and word.startswith("0"):
        return None
    return int(word)


def pair_of(word):
    """The pair that a word is, or None."""
    numbers = all_or_none([number_of(one) for one in word.split(">")])
    if numbers is None or len(numbers) != 2:
        return None
    return tuple(numbers)


def numbers_of(word):
    """The list of the numbers that a word is, with commas between, or None."""
    return all_or_none([number_of(one) for one in word.split(",")])


def all_or_none(values):
    """The list itself, or None if something in it is None."""
    return None if None in values else values
