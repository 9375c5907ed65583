"""The teller of a talk: it answers an asker's rows out of what its house held at the first of them."""

from fewasks.errors import BadRow
from fewasks.forms import begins_with, is_count, is_labels, is_rising, rises
from fewasks.packrows import row_price, rows_of
from fewasks.reach import ALL, missing, reached
from fewasks.reasons import wanted

MOST_ASKED = 20
MOST_UNDER = 10
MOST_ALSO = 40


def is_have(thing):
    if not begins_with(thing, "have", 2) or not is_rising(thing[1]) or not 1 <= len(thing[1]) <= MOST_ASKED:
        return False
    return all([is_count(name) for name in thing[1]])


def is_want(view, thing):
    if not begins_with(thing, "want", 7):
        return False
    word, starts, deep, under, common, whole, also = thing
    if not are_held_versions(view, starts) or not are_held_versions(view, common):
        return False
    if not is_count(deep) or deep > ALL or not is_labels(under, MOST_UNDER) or not rises(under):
        return False
    if not isinstance(whole, bool) or not is_rising(also) or len(also) > MOST_ALSO:
        return False
    return all([view.book.is_name(name) for name in also])


def are_held_versions(view, thing):
    """Whether it is a rising tuple of versions that the view holds."""
    return is_rising(thing) and all([view.holds_version(version) for version in thing])


def is_lack(bill, thing):
    if not begins_with(thing, "lack", 3) or not is_rising(thing[1]) or not is_rising(thing[2]):
        return False
    word, names, bases = thing
    if not all([name in bill[1] for name in names]):
        return False
    return all([base in bill[3] and base not in names for base in bases])


def bill_for(view, want):
    """The bill row that answers a right want."""
    word, starts, deep, under, common, whole, also = want
    billed = wanted_beyond(view, reached(view, starts, deep=deep), under, common if whole else ())
    sought = billed + list(also)
    names = {name for name in sought if view.holds(name)}
    gone = {name for name in sought + list(missing(view, starts, deep=deep)) if not view.holds(name)}
    return ("bill", tuple(sorted(names)), tuple(sorted(gone)), offer_of(view, common))


def wanted_beyond(view, versions, under, common):
    """All that is wanted of the versions that are not common, held or not, without what is wanted of the common."""
    shared = {name: True for names in wanted(view, common, under=under) for name in names}
    own = tuple([version for version in versions if version not in shared])
    return [name for names in wanted(view, own, under=under) for name in names if name not in shared]


def offer_of(view, common):
    """The leaves that whoever holds the common versions may hold."""
    return tuple([name for name in wanted(view, common)[0] if view.book.kind(name) == "leaf"])


class Teller:
    """Answers rows, each of them the same as before where it is handed in again."""

    def __init__(self, house):
        self.home = house
        self.first_view = None
        self.talk_pin = None
        self.greeting = None
        self.want_row = None
        self.bill_row = None
        self.lack_row = None
        self.pack_rows = []
        self.ended = False

    def answer(self, row):
        if row == ("done",) and self.greeting is not None:
            self.drop()
            return ("done",)
        if self.ended or (self.greeting is None and row != ("hello",)):
            raise BadRow("the talk has not begun, or is over")
        if row == ("hello",):
            return self.answer_hello()
        if is_have(row):
            return ("have", tuple([self.first_view.holds(name) for name in row[1]]))
        if is_want(self.first_view, row):
            return self.answer_want(row)
        if self.want_row is not None and is_lack(self.bill_row, row):
            return self.answer_lack(row)
        if begins_with(row, "row", 2) and is_count(row[1]) and row[1] < len(self.pack_rows):
            return ("row", row[1], self.pack_rows[row[1]])
        raise BadRow("no row of an asker that is due")

    def answer_hello(self):
        if self.greeting is None:
            self.first_view = self.home.view()
            self.talk_pin = self.home.pin(tuple(self.first_view.names()))
            edges = tuple(self.first_view.edges())
            self.greeting = ("house", tuple(self.home.marks()), edges, self.home.changes())
        return self.greeting

    def answer_want(self, row):
        if self.want_row is None:
            self.want_row = row
            self.bill_row = bill_for(self.first_view, row)
        if row != self.want_row:
            raise BadRow("another want was answered")
        return self.bill_row

    def answer_lack(self, row):
        if self.lack_row is None:
            self.lack_row = row
            self.pack_rows = rows_of(self.home.book, row[1], row[2])
        if row != self.lack_row:
            raise BadRow("another lack was answered")
        cost = sum([row_price(self.home.book, pack_row) for pack_row in self.pack_rows])
        return ("pack", len(self.pack_rows), cost)

    def over(self):
        return self.ended

    def drop(self):
        self.ended = True
        if self.talk_pin is not None:
            self.talk_pin.let_go()
