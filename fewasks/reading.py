"""Reading: what stands at a path of a version, what lacks there, and the versions that came ahead of one."""

from fewasks.errors import Lack, NoPath
from fewasks.holding import Holding
from fewasks.reach import ALL, check_held_version, check_versions, reached


def read(view, version, path):
    """The rows or the labels at the path, as far as the view holds what leads there."""
    check_held_version(view, version)
    name = view.book.root(version)
    refuse_lack(view, name)
    for at, label in enumerate(path):
        entries = dict(view.book.entries(name)) if view.book.kind(name) == "tree" else {}
        if label not in entries:
            raise NoPath(path[:at + 1])
        name = entries[label]
        refuse_lack(view, name)
    return shown(view.book.thing(name))


def refuse_lack(view, name):
    if not view.holds(name):
        raise Lack(name)


def shown(content):
    """What is told of a leaf or a tree: rows, or labels."""
    if content[0] == "leaf":
        return content
    return ("tree", tuple([label for label, name in content[1]]))


def plain(book, version, path):
    """The same as read, where each thing of the book is held."""
    return read(Holding(book, list(range(len(book)))), version, path)


def lacks(view, version, *, under=()):
    """What is wanted of the version and not held, each with the least path that leads there."""
    check_versions(view.book, (version,))
    root = view.book.root(version)
    for name in (version, root):
        if not view.holds(name):
            return [(name, ())]
    chosen = [entry for entry in view.book.entries(root) if not under or entry[0] in under]
    first_paths = least_paths(view, chosen)
    return [(name, first_paths[name]) for name in sorted(first_paths) if not view.holds(name)]


def least_paths(view, chosen):
    """For each name to which labels lead down from these entries the least path there."""
    found = {}
    waiting = [(name, (label,)) for label, name in reversed(chosen)]
    # Each tree is gone down by labels in order, so whatever comes first to a name comes by the least path.
    while waiting:
        name, path = waiting.pop()
        if name in found:
            continue
        found[name] = path
        if view.holds(name) and view.book.kind(name) == "tree":
            waiting.extend([(part, path + (label,)) for label, part in reversed(view.book.entries(name))])
    return found


def log(view, version, *, deep=ALL):
    """The versions that are reached from this one, falling, with their stamps and whether a parent lacks."""
    check_held_version(view, version)
    found = reached(view, (version,), deep=deep)
    return [(name, view.book.stamp(name), not view.has_parents(name)) for name in reversed(found)]
