"""The book of a family of houses: it names contents by ints from 0 on, in order."""

from fewasks.errors import NoName, NoThing, TooMany
from fewasks.forms import is_content_form, is_int

MOST = 400
DEEPEST = 8


class Book:
    """Gives names and knows them; two books know nothing of each other."""

    def __init__(self):
        self.contents = []
        self.depths = []
        self.given = {}

    def __len__(self):
        return len(self.contents)

    def named(self, content):
        """The name of a content: the one given to it before, else the next one."""
        if not self.is_content(content):
            raise NoThing("no content of this book")
        if content not in self.given:
            self.give_next(content)
        return self.given[content]

    def name_of(self, thing):
        """The name given to the thing, None where there is none."""
        # Only what is a content is looked up: Python takes True for 1 in a key, and a list for none.
        return self.given.get(thing) if self.is_content(thing) else None

    def thing(self, name):
        if not self.is_name(name):
            raise NoName(name)
        return self.contents[name]

    def kind(self, name):
        return self.thing(name)[0]

    def parts(self, name):
        content = self.thing(name)
        if content[0] == "tree":
            return tuple([part for label, part in content[1]])
        if content[0] == "version":
            return content[1] + (content[2],)
        return ()

    def parents(self, version):
        return self.thing(version)[1]

    def root(self, version):
        return self.thing(version)[2]

    def stamp(self, version):
        return self.thing(version)[3]

    def entries(self, tree):
        return self.thing(tree)[1]

    def leaf_rows(self, leaf):
        return self.thing(leaf)[1]

    def is_name(self, thing):
        """Whether it is a name that this book has given."""
        return is_int(thing) and 0 <= thing < len(self.contents)

    def is_version(self, thing):
        return self.is_name(thing) and self.contents[thing][0] == "version"

    def is_content(self, thing):
        """Whether it is a content in this book, named or not."""
        if not is_content_form(thing):
            return False
        if thing[0] == "tree":
            return self.has_kinds([part for label, part in thing[1]], ("leaf", "tree")) and self.depth(thing) <= DEEPEST
        if thing[0] == "version":
            return self.has_kinds(thing[1], ("version",)) and self.has_kinds([thing[2]], ("tree",))
        return True

    def has_kinds(self, names, kinds):
        """Whether each is a name given to a thing of one of these kinds."""
        return all([self.is_name(name) and self.contents[name][0] in kinds for name in names])

    def depth(self, content):
        """How deep a tree is; what is no tree is not deep."""
        if content[0] != "tree":
            return 0
        return 1 + max([self.depths[part] for label, part in content[1]], default=0)

    def give_next(self, content):
        if len(self.contents) >= MOST:
            raise TooMany("the book has given all its names")
        self.given[content] = len(self.contents)
        self.depths.append(self.depth(content))
        self.contents.append(content)
