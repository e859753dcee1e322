"""Movers for the tests, and a plain record of one, which tries all orders."""

from laidsheets.errors import LaidsheetsError
from laidsheets.movers import Mover
from tests import plain, plain_books, plain_movers
from tests.desks import make
from tests.samples import some_event


def moved(pile, calls):
    """A mover behind some calls: events, and ('trim',)."""
    mover = Mover(pile)
    for one in calls:
        if one == ("trim",):
            mover.trim()
        else:
            make(mover, one)
    return mover


def some_mover(rng, pile, many):
    """A mover behind a drawn run of calls."""
    mover = Mover(pile)
    order = rng.sample(range(len(pile[2])), len(pile[2]))
    for _ in range(many):
        try:
            if rng.random() < 0.15:
                mover.trim()
            else:
                make(mover, some_event(rng, mover.case(), order if rng.random() < 0.8 else None))
        except LaidsheetsError:
            pass
    return mover


class Record:
    """What the document says of a mover: steps (call, case, order, told), told the number or the sayings dropped."""

    def __init__(self, pile):
        self.pile = pile
        self.steps = [(None, (pile, {}, ()), tuple(range(len(pile[2]))), None)]

    def make(self, event):
        """Returns the number, 'invalid' or 'refused'."""
        call, case, order, told = self.steps[-1]
        if plain.behind(case, event) is None:
            return "invalid"
        made = plain_movers.event_behind(case, order, event)
        if made is None:
            return "refused"
        self.steps.append((event,) + made)
        return made[2]

    def trim(self):
        call, case, order, told = self.steps[-1]
        behind, gone = plain_movers.trim(case)
        self.steps.append((("trim",), behind, order, [saying for saying, rest in gone]))
        return self.steps[-1][3]

    def undo(self):
        return self.steps.pop()[0] if len(self.steps) > 1 else None

    def entry_holds(self, number, entry):
        """Whether a value is right as the entry of a call; looked at word for word, and not by the program."""
        call, case, order, told = self.steps[number + 1]
        before, ahead = self.steps[number][1:3]
        if call == ("trim",):
            return entry[0] == "trim" and len(entry) == 2 and plain_movers.trim_holds(before, entry[1])
        if repr(entry[0]) != repr(call) or len(entry) != 3:
            return False
        if not plain_books.way_holds(plain.all_orders(before), ahead, order, entry[1]):
            return False
        return plain_movers.shows_near(case, ahead, entry[2], told)
