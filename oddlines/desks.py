"""Desks: webs that are edited by deeds, which can be taken back and done again."""

from oddlines.bounds import MAX_EDITS
from oddlines.classes import holders
from oddlines.deeds import deed_error, done
from oddlines.errors import BadLog, BadWeb, NothingToRedo, NothingToUndo, NoVersion, Refused, TooManyEdits, Unfit
from oddlines.joining import way
from oddlines.kinds import is_int_between
from oddlines.oddsets import odd_set
from oddlines.webs import has_line, numbers, web_error


def _checked(web):
    """Return web if it is one."""
    error = web_error(web)
    if error is not None:
        raise BadWeb(error)
    return web


class Desk:
    """A web that is edited by deeds."""

    def __init__(self, web):
        # Tuples, so that copies can share them: the webs of all versions that stand, the deeds between them,
        # and the deeds that were taken back, the latest one behind all others.
        self._webs = (_checked(web),)
        self._log = ()
        self._undone = ()

    def __eq__(self, other):
        return isinstance(other, Desk) and self._webs[-1] == other._webs[-1]

    @property
    def web(self):
        """The present web."""
        return self._webs[-1]

    @property
    def numbers(self):
        """The numbers of the present web."""
        return numbers(self._webs[-1])

    @property
    def odd_set(self):
        """The odd set of the present web."""
        return odd_set(self._webs[-1])

    @property
    def holders(self):
        """The holders of the locked numbers in the present web."""
        return holders(self._webs[-1])

    @property
    def version(self):
        """How many edits stand."""
        return len(self._log)

    @property
    def log(self):
        """The deeds of the edits that stand."""
        return self._log

    def _stand(self, deed):
        """Let deed, which can be done, stand as the last one; return the version then."""
        self._webs = (*self._webs, done(self._webs[-1], deed))
        self._log = (*self._log, deed)
        return len(self._log)

    def edit(self, deed):
        """Do deed, any value; return the new version."""
        error = deed_error(self._webs[-1], deed)
        if error == "form":
            raise Unfit()
        if error is not None:
            raise Refused(deed)
        if len(self._log) == MAX_EDITS:
            raise TooManyEdits()
        self._undone = ()
        return self._stand(deed)

    def draw(self, a, b):
        """Draw the line between a and b; return the new version."""
        return self.edit(("draw", a, b))

    def strike(self, a, b):
        """Strike the line between a and b; return the new version."""
        return self.edit(("strike", a, b))

    def exchange(self, a, b, c, e):
        """Exchange the lines a-b and c-e for a-c and b-e; return the new version."""
        return self.edit(("exchange", a, b, c, e))

    def undo(self):
        """Take back the last edit that stands; return the version then."""
        if not self._log:
            raise NothingToUndo()
        self._undone = (*self._undone, self._log[-1])
        self._log = self._log[:-1]
        self._webs = self._webs[:-1]
        return len(self._log)

    def redo(self):
        """Do again what was taken back last; return the version then."""
        if not self._undone:
            raise NothingToRedo()
        deed = self._undone[-1]
        self._undone = self._undone[:-1]
        return self._stand(deed)

    def at(self, version):
        """Return the web when so many edits stood."""
        if not is_int_between(version, 0, len(self._log)):
            raise NoVersion(version)
        return self._webs[version]

    def copy(self):
        """Return a desk with the same web and edits that does not change with this one."""
        twin = Desk(self._webs[0])
        twin._webs = self._webs
        twin._log = self._log
        twin._undone = self._undone
        return twin

    def may(self, a, b):
        """Return the word of the deed that a and b may do to the line between them, None if there is none."""
        last = self._webs[-1][0] - 1
        if not is_int_between(a, 0, last) or not is_int_between(b, 0, last) or a == b:
            raise Unfit()
        told = numbers(self._webs[-1])
        if told[a] != told[b]:
            return None
        return "strike" if has_line(self._webs[-1], a, b) else "draw"

    def way_to(self, web):
        """Return deeds that lead from the present web to web, without doing them."""
        return way(self._webs[-1], _checked(web))


def desk_behind(web, log):
    """Return a new desk with web on which the deeds of log were done."""
    desk = Desk(web)
    if not isinstance(log, tuple):
        raise BadLog(0)
    for place, deed in enumerate(log):
        try:
            desk.edit(deed)
        except (Unfit, Refused, TooManyEdits):
            raise BadLog(place) from None
    return desk
