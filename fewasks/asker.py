"""The asker of a talk: it finds out by few asks what the other house has, and is sent what lacks."""

from fewasks.asks import FEW, next_asks, settled
from fewasks.chains import cover
from fewasks.errors import BadRow, Contrary, NoMark, Unsettled
from fewasks.forms import begins_with, is_count, is_label, is_pair, is_rising, is_truths, rises
from fewasks.packrows import opened
from fewasks.papers import paper
from fewasks.reach import ALL
from fewasks.reasons import wanted
from fewasks.shapes import shape


def is_house_row(book, thing):
    if not begins_with(thing, "house", 4) or not are_marks(book, thing[1]):
        return False
    return is_rising(thing[2]) and all([book.is_version(edge) for edge in thing[2]]) and is_count(thing[3])


def are_marks(book, thing):
    """Whether it is a rising tuple of pairs of a mark and a version, no mark twice."""
    if not isinstance(thing, tuple) or not all([is_pair(pair) for pair in thing]):
        return False
    if not all([is_label(mark) and book.is_version(version) for mark, version in thing]):
        return False
    return rises([mark for mark, version in thing])


def is_bill(book, thing):
    if not begins_with(thing, "bill", 4) or not all([are_names(book, names) for names in thing[1:]]):
        return False
    word, names, gone, offer = thing
    return not any([name in names for name in gone]) and all([book.kind(name) == "leaf" for name in offer])


def are_names(book, thing):
    """Whether it is a rising tuple of names of the book."""
    return is_rising(thing) and all([book.is_name(name) for name in thing])


def as_pairs(answers):
    """The answers of a dict, rising."""
    return tuple([(version, answers[version]) for version in sorted(answers)])


class Asker:
    """Says a row, hears the answer to it, and so on to the end of the talk.

    due is the row that it has to say, None when the talk is over.
    """

    def __init__(self, house, label, wishes, *, deep=ALL, under=(), also=(), few=FEW, known=None):
        self.home = house
        self.label = label
        self.wishes = wishes
        self.deep = deep
        self.under = under
        self.also = also
        self.few = few
        self.first_view = house.view()
        self.talk_pin = house.pin(tuple(self.first_view.names()))
        self.known_changes, self.known_answers = (None, {}) if known is None else known.leave()
        self.due = ("hello",)
        self.told_changes = None
        self.own_shape = None
        self.own_cover = None
        self.own_answers = {}
        self.starts_of = {}
        self.many_asked = 0
        self.lacking = ()
        self.brought = []
        self.told_gone = ()

    def leave(self):
        """Ends the talk, and tells at which changes of the other house it knew what of its versions."""
        # Whoever goes on pins all that the house holds, and so all that is on this one's pin.
        self.drop()
        known = dict(self.own_answers)
        known.update({name: True for name in self.brought if self.home.book.is_version(name)})
        return self.told_changes, known

    def gone_on_with(self):
        """An asker that wishes the same, to which this one is known."""
        return Asker(self.home, self.label, self.wishes, deep=self.deep, under=self.under, also=self.also, few=self.few,
                     known=self)

    def say(self):
        return self.due

    def hear(self, row):
        word = None if self.due is None else self.due[0]
        if word == "hello":
            self.hear_house(row)
        elif word == "have":
            self.hear_truths(row)
        elif word == "want":
            self.hear_bill(row)
        elif word == "lack":
            self.hear_pack(row)
        elif word == "row":
            self.hear_row(row)
        elif word == "done" and row == ("done",):
            self.hear_done()
        else:
            raise BadRow("no answer that is due")

    def hear_house(self, row):
        if not is_house_row(self.home.book, row):
            raise BadRow("no answer to a hello")
        word, marks, edges, changes = row
        versions = dict(marks)
        for wish in self.wishes:
            if wish not in versions:
                self.drop()
                raise NoMark(wish)
        found = shape(self.first_view, edges)
        chains = cover(found)
        answers = self.first_answers(found, edges + tuple(versions.values()), changes)
        asks = self.asks_behind(found, chains, answers)
        self.told_changes = changes
        self.own_shape = found
        self.own_cover = chains
        self.own_answers = answers
        self.starts_of = {wish: versions[wish] for wish in self.wishes}
        self.due = self.have_or_want(asks)

    def first_answers(self, found, told, changes):
        """What is known, and for all else that was told, that the other house has it."""
        known = self.known_answers if changes == self.known_changes else {}
        answers = {}
        for version in found[0]:
            if version in known:
                answers[version] = known[version]
            elif version in told:
                answers[version] = True
        return answers

    def asks_behind(self, found, chains, answers):
        """What to ask behind these answers; where they are contrary, the talk is over."""
        try:
            return tuple(sorted(next_asks(found, chains, as_pairs(answers), few=self.few)))
        except Contrary:
            self.drop()
            raise

    def have_or_want(self, asks):
        if asks:
            return ("have", asks)
        starts = tuple(sorted({self.starts_of[wish] for wish in self.wishes}))
        common = self.common()
        whole = wanted(self.first_view, common, under=self.under)[1] == ()
        return ("want", starts, self.deep, self.under, common, whole, self.also)

    def hear_truths(self, row):
        names = self.due[1]
        if not begins_with(row, "have", 2) or not is_truths(row[1]) or len(row[1]) != len(names):
            raise BadRow("no answer to these names")
        answers = dict(self.own_answers)
        answers.update(dict(zip(names, row[1])))
        asks = self.asks_behind(self.own_shape, self.own_cover, answers)
        self.own_answers = answers
        self.many_asked += len(names)
        self.due = self.have_or_want(asks)

    def hear_bill(self, row):
        starts = self.due[1]
        if not is_bill(self.home.book, row):
            raise BadRow("no answer to a want")
        word, names, gone, offer = row
        if not all([start in names or self.first_view.holds(start) for start in starts]):
            raise BadRow("a start is neither billed nor held")
        for name in names + offer:
            if self.home.holds(name):
                self.talk_pin.add(name)
        self.told_gone = gone
        self.lacking = tuple([name for name in names if not self.home.holds(name)])
        self.due = ("lack", self.lacking, tuple([leaf for leaf in offer if self.home.holds(leaf)]))

    def hear_pack(self, row):
        if not begins_with(row, "pack", 3) or not is_count(row[1]) or not is_count(row[2]):
            raise BadRow("no answer to a lack")
        if row[1] != len(self.lacking):
            raise BadRow("not as many rows as things that lack")
        self.due = self.row_or_done()

    def row_or_done(self):
        many = len(self.brought)
        return ("row", many) if many < len(self.lacking) else ("done",)

    def hear_row(self, row):
        if not begins_with(row, "row", 3) or not is_count(row[1]) or row[1] != self.due[1]:
            raise BadRow("no answer of this number")
        name = opened(self.home.book, self.home.view(), row[2])
        if name not in self.lacking or name in self.brought:
            raise BadRow("it does not lack")
        self.home.put(name)
        self.talk_pin.add(name)
        self.brought.append(name)
        self.due = self.row_or_done()

    def hear_done(self):
        for wish in self.wishes:
            self.home.set_far(self.label, wish, self.starts_of[wish])
        self.drop()

    def over(self):
        return self.due is None

    def asked(self):
        return self.many_asked

    def shape(self):
        self.refuse_ahead()
        return self.own_shape

    def answers(self):
        self.refuse_ahead()
        return as_pairs(self.own_answers)

    def paper(self):
        self.refuse_ahead()
        return paper(self.own_shape, as_pairs(self.own_answers))

    def refuse_ahead(self):
        if self.own_shape is None:
            raise Unsettled(None)

    def common(self):
        return () if self.own_shape is None else settled(self.own_shape, as_pairs(self.own_answers))[0]

    def came(self):
        return tuple(self.brought)

    def gone(self):
        return self.told_gone

    def drop(self):
        self.due = None
        self.talk_pin.let_go()
