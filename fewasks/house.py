"""Houses: stores with marks, far marks and pins, and sweeps of what none of these reaches."""

from fewasks.errors import HouseError, NoMark, NotAhead, Stale
from fewasks.forms import is_int, is_label
from fewasks.keeping import keeping
from fewasks.pins import Pin
from fewasks.reach import ALL, check_held_version
from fewasks.store import Store
from fewasks.ways import way

LAST = 50


class House(Store):
    """A store whose marks, far marks and pins stand on what it holds, always."""

    def __init__(self, book):
        Store.__init__(self, book)
        self.standing = {}
        self.last_moves = []
        self.far_standing = {}
        self.pinned = []

    def marks(self):
        return [(mark, self.standing[mark]) for mark in sorted(self.standing)]

    def at(self, mark):
        if not is_label(mark) or mark not in self.standing:
            raise NoMark(mark)
        return self.standing[mark]

    def move(self, mark, *, old, new, back=False):
        """Sets the mark from old to new, ahead but where back is True, and tells the way between them."""
        if not is_label(mark):
            raise NoMark(mark)
        if new is not None:
            check_held_version(self, new)
        self.refuse_stale(mark, old)
        told = None if old is None or new is None else way(self.view(), old, new)
        if back is not True and (new is None or (told is not None and told[0] == "apart")):
            raise NotAhead(mark, told)
        self.standing.pop(mark, None)
        if new is not None:
            self.standing[mark] = new
        self.last_moves = (self.last_moves + [(mark, old, new, back)])[-LAST:]
        return told

    def refuse_stale(self, mark, old):
        there = self.standing.get(mark)
        # Python takes True for 1, and a mark on 1 does not stand on True.
        stands_so = old is None if there is None else is_int(old) and old == there
        if not stands_so:
            raise Stale(mark, there)

    def move_all(self, moves):
        """Makes the moves in order, or, where one is refused, none of them."""
        standing, made = dict(self.standing), list(self.last_moves)
        told = []
        try:
            for mark, old, new, back in moves:
                told.append(self.move(mark, old=old, new=new, back=back))
        except HouseError:
            self.standing, self.last_moves = standing, made
            raise
        return told

    def trail(self):
        return list(self.last_moves)

    def far(self):
        return [(label, mark, self.far_standing[label, mark]) for label, mark in sorted(self.far_standing)]

    def set_far(self, label, mark, version):
        if version is not None:
            check_held_version(self, version)
            self.far_standing[label, mark] = version
        else:
            self.far_standing.pop((label, mark), None)

    def pin(self, names):
        made = Pin(self, names)
        # Those that were let go never have names again, so this is where they are forgotten.
        self.pinned = [pin for pin in self.pinned if not pin.is_let_go] + [made]
        return made

    def roots(self):
        """What the marks, the far marks and the pins stand on."""
        names = [self.standing[mark] for mark in self.standing]
        names.extend([self.far_standing[pair] for pair in self.far_standing])
        names.extend([name for pin in self.pinned for name in pin.names()])
        return sorted(set(names))

    def kept(self, *, deep=ALL):
        return [name for name, steps, above in keeping(self.view(), tuple(self.roots()), deep=deep)]

    def sweep(self, *, deep=ALL):
        """Takes out all that is not kept, and tells it."""
        kept = {name: True for name in self.kept(deep=deep)}
        taken = [name for name in self.held() if name not in kept]
        self.inside = kept
        if taken:
            self.many_changes += 1
        return taken
