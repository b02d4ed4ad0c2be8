"""The errors of the package [3]."""


class WebError(ValueError):
    """What every error of the package is."""


class InvalidWeb(WebError):
    """The value is no web."""


class InvalidSource(WebError):
    """The value is not the number of a source of the web."""


class InvalidQuantity(WebError):
    """The value is not the number of a quantity of the web."""


class InvalidTargets(WebError):
    """The value is no ascending list of one or more quantities."""


class InvalidNudge(WebError):
    """The value is not the number of a nudge of the web."""


class InvalidOrder(WebError):
    """The value is no list of all quantities, each once."""


class InvalidLinks(WebError):
    """The value is no ascending list of tuples of a quantity of each web."""


class InvalidKind(WebError):
    """The value is none of the two kinds."""


class InvalidFort(WebError):
    """The value is no fort of the web and the kind."""


class InvalidFilling(WebError):
    """The value is no filling of the web."""


class InvalidState(WebError):
    """The value is no list of as many integers as there are quantities."""


class InvalidGiven(WebError):
    """The value is no list of pushes, or no list of such lists."""


class InvalidHill(WebError):
    """The value is no hill of the web."""


class InvalidNumber(WebError):
    """The value is no integer within the limits."""


class InvalidChange(WebError):
    """The value is no change of a live web."""


class InvalidCommand(WebError):
    """The value is no command of the console."""


class NoLine(WebError):
    """There is no such line."""


class LineThere(WebError):
    """The line is there already."""


class NothingToUndo(WebError):
    """No call is left that could be taken back."""


class TooLarge(WebError):
    """Something is greater than its limit."""

    def __init__(self, limit):
        self.limit = limit


class InvalidText(WebError):
    """The value is not the text of a web; the place tells which part is wrong."""

    def __init__(self, place):
        self.place = place
