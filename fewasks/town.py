"""A town: houses of one book under labels, and the talks between them."""

from fewasks.asker import Asker
from fewasks.asks import FEW
from fewasks.book import MOST, Book
from fewasks.errors import Broken, HouseError, NoHouse, NoTalk, Taken, TooMany
from fewasks.forms import is_int
from fewasks.house import House
from fewasks.reach import ALL
from fewasks.teller import Teller

TALKS = 60


class Talk:
    """An asker of one house and a teller of another one."""

    def __init__(self, asker, teller):
        self.asker = asker
        self.teller = teller

    def row_and_answer(self):
        """One row, said and answered and heard; where hear refuses, the talk is over at both ends."""
        row = self.asker.say()
        told = self.teller.answer(row)
        try:
            self.asker.hear(told)
        except HouseError:
            self.drop()
            raise
        return (row, told)

    def run(self, most):
        """Goes on to the end, with at most so many rows said."""
        said = 0
        while not self.asker.over():
            if said == most:
                raise Broken(most)
            self.row_and_answer()
            said += 1

    def drop(self):
        self.asker.drop()
        self.teller.drop()


class Town:
    """Talks are told by their numbers, from 0 on in the order in which they were begun."""

    def __init__(self):
        self.book = Book()
        self.houses = {}
        self.talks = []

    def build(self, label):
        if label in self.houses:
            raise Taken(label)
        self.houses[label] = House(self.book)
        return self.houses[label]

    def house(self, label):
        if not isinstance(label, str) or label not in self.houses:
            raise NoHouse(label)
        return self.houses[label]

    def labels(self):
        return sorted(self.houses)

    def begin(self, to, of, wishes, *, deep=ALL, under=(), also=(), few=FEW):
        here, there = self.house(to), self.house(of)
        self.refuse_many()
        asker = Asker(here, of, wishes, deep=deep, under=under, also=also, few=few)
        return self.numbered(Talk(asker, Teller(there)))

    def again(self, talk):
        """Goes on with a talk that is not over, as a new one to which the old one's asker is known."""
        old = self.talk_of(talk)
        if old.asker.over():
            raise NoTalk(talk)
        self.refuse_many()
        old.teller.drop()
        return self.numbered(Talk(old.asker.gone_on_with(), Teller(old.teller.home)))

    def refuse_many(self):
        if len(self.talks) >= TALKS:
            raise TooMany("there were as many talks as there may be")

    def numbered(self, talk):
        self.talks.append(talk)
        return len(self.talks) - 1

    def talk_of(self, number):
        if not is_int(number) or not 0 <= number < len(self.talks):
            raise NoTalk(number)
        return self.talks[number]

    def step(self, talk):
        going = self.talk_of(talk)
        if going.asker.over():
            return None
        if going.teller.over():
            raise NoTalk(talk)
        return going.row_and_answer()

    def cut(self, talk):
        self.talk_of(talk).teller.drop()

    def drop(self, talk):
        self.talk_of(talk).drop()

    def pull(self, to, of, wishes, *, deep=ALL, under=(), also=(), few=FEW, most=MOST):
        """A whole talk, without a number; tells the names that came."""
        here, there = self.house(to), self.house(of)
        talk = Talk(Asker(here, of, wishes, deep=deep, under=under, also=also, few=few), Teller(there))
        try:
            talk.run(most)
        except HouseError:
            talk.drop()
            raise
        return talk.asker.came()

    def give(self, of, to, mark, *, old, back=False):
        """Has the house to pull the mark, and then move its own one there."""
        here, there = self.house(to), self.house(of)
        version = there.at(mark)
        self.pull(to, of, (mark,))
        return here.move(mark, old=old, new=version, back=back)

    def sweep(self, label):
        return self.house(label).sweep()
