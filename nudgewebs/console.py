"""A console for a live web [29]."""

from nudgewebs.checks import KINDS
from nudgewebs.errors import InvalidCommand
from nudgewebs.every import forcing_row, left_open, reaches_every
from nudgewebs.forts import least_forts
from nudgewebs.further import fewest_single, fewest_wide
from nudgewebs.lines import needed
from nudgewebs.live import CHANGES, LiveWeb, perform
from nudgewebs.pairings import loose
from nudgewebs.some import most, reaches_some
from nudgewebs.texts import line_words, number_of, number_words, numbers_of, read_web, show_web
from nudgewebs.ways import unreached

# What begins with this is a command, whatever stands behind it.
WEB_WORD = "web "

# The words of all other commands, each with the forms of the words behind it.
FORMS = {
    "link": ("number", "number"),
    "cut": ("number", "number"),
    "attach": ("list",),
    "detach": ("number",),
    "undo": (),
    "text": (),
    "most": (),
    "sure": (),
    "some": (),
    "row": ("kind",),
    "open": ("kind",),
    "forts": ("kind",),
    "apart": (),
    "loose": (),
    "wide": (),
    "single": (),
    "needed": (),
}


def tell_text(web):
    return show_web(web)


def tell_most(web):
    return str(most(web))


def tell_sure(web):
    return yes_or_no(reaches_every(web))


def tell_some(web):
    return yes_or_no(reaches_some(web))


def tell_apart(web):
    return listed(number_words(unreached(web)))


def tell_loose(web):
    return listed(number_words(loose(web)))


def tell_wide(web):
    return str(fewest_wide(web))


def tell_single(web):
    return str(fewest_single(web))


def tell_needed(web):
    return listed(line_words(needed(web)))


def tell_row(web, kind):
    return listed(line_words(forcing_row(web, kind) or []))


def tell_open(web, kind):
    return listed(number_words(left_open(web, kind)))


def tell_forts(web, kind):
    forts = [listed(number_words(fort)) for fort in least_forts(web, kind)]
    return ", ".join(forts) or "none"


ANSWERS = {
    "text": tell_text,
    "most": tell_most,
    "sure": tell_sure,
    "some": tell_some,
    "apart": tell_apart,
    "loose": tell_loose,
    "wide": tell_wide,
    "single": tell_single,
    "needed": tell_needed,
}
KIND_ANSWERS = {"row": tell_row, "open": tell_open, "forts": tell_forts}


class Console:
    """A live web that is told what to do by words."""

    def __init__(self):
        self._live = LiveWeb((1, [], []))

    def execute(self, command):
        """Performs a command and returns its answer."""
        if isinstance(command, str) and command.startswith(WEB_WORD):
            self._live = LiveWeb(read_web(command[len(WEB_WORD):]))
            return "ok"
        word, values = read_command(command)
        if word in CHANGES:
            return str(perform(self._live, (word, *values)))
        if word == "undo":
            return str(self._live.undo())
        if word in KIND_ANSWERS:
            tell_of_kind = KIND_ANSWERS[word]
            return tell_of_kind(self._live.web, values[0])
        tell = ANSWERS[word]
        return tell(self._live.web)


def listed(words):
    """The words with single spaces between, and `none` if there are none."""
    return " ".join(words) or "none"


def yes_or_no(value):
    """The word for True or False."""
    return "yes" if value else "no"


def read_command(command):
    """The tuple of the word of a command and of the list of what the words behind it tell."""
    if not isinstance(command, str):
        raise InvalidCommand("not a string")
    words = command.split(" ")
    word, *rest = words
    if word not in FORMS or len(FORMS[word]) != len(rest):
        raise InvalidCommand("no such word, or not as many words behind it as it asks for")
    values = [value_of(form, one) for form, one in zip(FORMS[word], rest)]
    if None in values:
        raise InvalidCommand("a word that is no number, no list or no kind")
    return word, values


def value_of(form, word):
    """What a word of some form tells, or None if it does not have this form."""
    if form == "number":
        return number_of(word)
    if form == "list":
        return numbers_of(word)
    return word if word in KINDS else None
