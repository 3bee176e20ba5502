"""What the test files of desks use."""

from oddlines.bounds import MAX_EDITS
from oddlines.desks import Desk
from oddlines.errors import NothingToRedo, NoVersion, OddError
from pairs import deeds_in
from support import SQUARE, Case, told_class, told_locked, told_numbers, told_odd_set

NO_WEBS = [
    list(SQUARE), (4, [(0, 1)]), (4, ((1, 0),)), (4, ((0, 4),)), (4, ((0, True),)), (4, ((0, 2), (0, 1))), (1, ()),
    (11, ()), (True, ()), ("4", ()), 4, None, "4: 0-1", (4,), (4, (), ()), [4, ()], {4: ()}, (4, ((0, 1), (0, 1))),
]


def shown(desk):
    """All that can be read of a desk."""
    webs = [desk.at(version) for version in range(desk.version + 1)]
    return (desk.web, desk.numbers, desk.odd_set, desk.holders, desk.version, desk.log, webs)


def redoable(desk):
    """What can be done again at a desk, found out on a copy."""
    twin, webs = desk.copy(), []
    while True:
        try:
            twin.redo()
        except NothingToRedo:
            return webs
        webs.append(twin.web)


def call(desk, deed):
    return {"draw": desk.draw, "strike": desk.strike, "exchange": desk.exchange}[deed[0]](*deed[1:])


def any_pair(web):
    """A draw or a strike that can be done in web: there always is one, as two have one number."""
    return [deed for deed in deeds_in(web) if deed[0] != "exchange"][0]


def full_desk(web):
    """A desk on which as many edits stand as may stand."""
    desk = Desk(web)
    for _ in range(MAX_EDITS):
        call(desk, any_pair(desk.web))
    return desk


class DeskCase(Case):

    def assertError(self, wanted, call, *args):
        """The call raises this error, with just these fields."""
        with self.assertRaises(OddError, msg=repr(args)[:80]) as caught:
            call(*args)
        self.assertIs(type(caught.exception), type(wanted), repr(args)[:80])
        self.assertSame(vars(caught.exception), vars(wanted))

    def check(self, desk, webs, log):
        """The desk tells what a list of all webs that stand, and the deeds between them, tell."""
        web = webs[-1]
        self.assertSame(desk.web, web)
        self.assertSame(desk.numbers, told_numbers(web))
        self.assertSame(desk.odd_set, told_odd_set(web))
        locks = told_locked(web[0], told_odd_set(web))
        self.assertSame(desk.holders, tuple(zip(locks, told_class(web)[2])))
        self.assertSame(desk.version, len(log))
        self.assertSame(desk.log, tuple(log))
        for version, one in enumerate(webs):
            self.assertSame(desk.at(version), one)
        self.assertError(NoVersion(len(webs)), desk.at, len(webs))
