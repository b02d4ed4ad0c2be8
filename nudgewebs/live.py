"""Webs that change, and whose changes can be taken back [28]."""

from nudgewebs.checks import check_web
from nudgewebs.covers import greatest_size
from nudgewebs.errors import InvalidChange, InvalidNumber, NothingToUndo
from nudgewebs.every import leaves_none_open
from nudgewebs.shapes import is_number_below
from nudgewebs.webs import copied_nudges, with_nudge, with_pair, without_nudge, without_pair

# The words of the changes, each with the number of the items that stand behind it.
CHANGES = {"link": 2, "cut": 2, "attach": 1, "detach": 1}


class LiveWeb:
    """A web that changes."""

    def __init__(self, web):
        check_web(web)
        # For each call that is not taken back its change and the web ahead of it. Neither these
        # webs nor the present one are ever changed, so twins may share them.
        self._past = []
        self._show(copied_web(web))

    def __len__(self):
        return len(self._past)

    def __eq__(self, other):
        return isinstance(other, LiveWeb) and self._web == other._web

    @property
    def web(self):
        """The web as it is now."""
        return copied_web(self._web)

    @property
    def most(self):
        """The greatest dimension of the reach of any filling."""
        return self._most

    @property
    def is_sure(self):
        """Whether all states are reached by every filling."""
        return self._is_sure

    @property
    def log(self):
        """The list of the changes that are not taken back."""
        return [copied_change(change) for change, _ in self._past]

    def link(self, quantity, target):
        """Puts a pair in."""
        return self._change_to(with_pair(self._web, quantity, target), ("link", quantity, target))

    def cut(self, quantity, target):
        """Takes a pair away."""
        return self._change_to(without_pair(self._web, quantity, target), ("cut", quantity, target))

    def attach(self, targets):
        """Puts a nudge in, the last one."""
        return self._change_to(with_nudge(self._web, targets), ("attach", list(targets)))

    def detach(self, nudge):
        """Takes a nudge away; those behind it get lesser numbers."""
        return self._change_to(without_nudge(self._web, nudge), ("detach", nudge))

    def undo(self):
        """Takes back the latest call that is not taken back."""
        if not self._past:
            raise NothingToUndo("no call is left that could be taken back")
        return self.undo_to(len(self._past) - 1)

    def undo_to(self, number):
        """Takes back calls until so many of them are left."""
        if not is_number_below(number, len(self._past) + 1):
            raise InvalidNumber(f"not an integer from 0 to {len(self._past)}")
        if number < len(self._past):
            _, web = self._past[number]
            del self._past[number:]
            self._show(web)
        return self._most

    def tried(self, *changes):
        """The list of the greatest dimensions behind each of some changes, which are not kept."""
        for change in changes:
            check_change(change)
        other = self.twin()
        return [perform(other, change) for change in changes]

    def twin(self):
        """An independent live web with the same web and the same calls to undo."""
        other = LiveWeb(self._web)
        other._past = list(self._past)
        return other

    def _change_to(self, web, change):
        self._past.append((change, self._web))
        self._show(web)
        return self._most

    def _show(self, web):
        self._web = web
        self._most = greatest_size(web)
        self._is_sure = leaves_none_open(web)


def perform(live, change):
    """Makes the call of a live web that a change names, and returns what the call returns."""
    word, *rest = change
    if word == "link":
        return live.link(*rest)
    if word == "cut":
        return live.cut(*rest)
    if word == "attach":
        return live.attach(*rest)
    return live.detach(*rest)


def check_change(change):
    """Raises an error unless any value is a tuple of a word and as many items as it asks for."""
    if not isinstance(change, tuple) or not change or not isinstance(change[0], str):
        raise InvalidChange("not a tuple that begins with a word")
    if change[0] not in CHANGES or len(change) != 1 + CHANGES[change[0]]:
        raise InvalidChange("no such word, or not as many items as it asks for")


def copied_change(change):
    """The change with a list of its own."""
    if change[0] == "attach":
        return "attach", list(change[1])
    return change


def copied_web(web):
    """The web with lists of its own."""
    count, pairs, nudges = web
    return count, list(pairs), copied_nudges(nudges)
