"""The refusals. A field has what it is about just as it was handed in."""


class HouseError(ValueError):
    """What all refusals of this package are made from."""


class NoThing(HouseError):
    """What was handed in is no content of the book."""


class NoName(HouseError):
    """What was handed in is no name, or none of the kind that is due."""

    def __init__(self, name):
        HouseError.__init__(self, "the book has given no such name")
        self.name = name


class TooMany(HouseError):
    """One more than there may be."""


class NoShape(HouseError):
    """What was handed in is no shape, or no version of the shape."""


class Contrary(HouseError):
    """The version upper is answered True, though lower below it is answered False."""

    def __init__(self, upper, lower):
        HouseError.__init__(self, "a version below a held one is answered as lacking")
        self.upper = upper
        self.lower = lower


class Unsettled(HouseError):
    """The answers leave version open."""

    def __init__(self, version):
        HouseError.__init__(self, "the answers do not settle all versions")
        self.version = version


class NoScript(HouseError):
    """What was handed in is no script, or no right one over its base."""


class BadRow(HouseError):
    """What was handed in is no row that is due."""


class NoMark(HouseError):
    """What was handed in is no mark, or none that stands anywhere."""

    def __init__(self, mark):
        HouseError.__init__(self, "there is no such mark")
        self.mark = mark


class Stale(HouseError):
    """The mark stands elsewhere than the mover takes it to stand: there."""

    def __init__(self, mark, there):
        HouseError.__init__(self, "the mark stands elsewhere")
        self.mark = mark
        self.there = there


class NotAhead(HouseError):
    """The mark would not go ahead; why is the way paper that shows it, or None."""

    def __init__(self, mark, why):
        HouseError.__init__(self, "the mark would not go ahead")
        self.mark = mark
        self.why = why


class Lack(HouseError):
    """The thing of that name is not held."""

    def __init__(self, name):
        HouseError.__init__(self, "the thing is not held")
        self.name = name


class LetGo(HouseError):
    """The pin was let go."""


class NoPath(HouseError):
    """There is nothing at the last label of path."""

    def __init__(self, path):
        HouseError.__init__(self, "there is nothing at this path")
        self.path = path


class NoText(HouseError):
    """What was handed in is no row of a talk, or no text that writes one."""


class NoHouse(HouseError):
    """There is no house of that label."""

    def __init__(self, label):
        HouseError.__init__(self, "there is no house of this label")
        self.label = label


class Taken(HouseError):
    """There is a house of that label already."""

    def __init__(self, label):
        HouseError.__init__(self, "there is a house of this label already")
        self.label = label


class NoTalk(HouseError):
    """There is no talk of that number that could go on."""

    def __init__(self, number):
        HouseError.__init__(self, "there is no such talk")
        self.number = number


class Broken(HouseError):
    """The talk was not over behind so many rows."""

    def __init__(self, rows):
        HouseError.__init__(self, "the talk was not over in time")
        self.rows = rows
