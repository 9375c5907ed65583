"""Reasons: what is wanted of some versions under labels, and by what each name came in."""

from fewasks.forms import is_int
from fewasks.reach import check_versions


def wanted(view, versions, *, under=()):
    """The wanted names that are held, and those that are not."""
    names = sorted(all_reasons(view, versions, under))
    held = [name for name in names if view.holds(name)]
    return (tuple(held), tuple([name for name in names if not view.holds(name)]))


def right_reasons(view, versions, thing, *, under=()):
    """Whether the thing has for each wanted name whether it came in by an entry, and something by which it came."""
    found = all_reasons(view, versions, under)
    if not isinstance(thing, tuple) or len(thing) != len(found):
        return False
    return all([is_reason(triple, name, found[name]) for triple, name in zip(thing, sorted(found))])


def is_reason(thing, name, found):
    if not isinstance(thing, tuple) or len(thing) != 3 or not is_int(thing[0]) or not isinstance(thing[1], bool):
        return False
    whole, choices = found
    if thing[0] != name or thing[1] != whole:
        return False
    return (thing[2] is None or is_int(thing[2])) and thing[2] in choices


def reasons(view, versions, *, under=()):
    """For each wanted name a triple, with the first of the right names in by."""
    found = all_reasons(view, versions, under)
    told = []
    for name in sorted(found):
        whole, choices = found[name]
        told.append((name, whole, choices[0]))
    return tuple(told)


def all_reasons(view, versions, under):
    """For each wanted name whether it came in by an entry, and a list of all that may stand in by."""
    check_versions(view.book, versions)
    by_root = held_by_root(view, versions)
    by_entry = trees_by_entry(view, sorted(by_root), under)
    found = {version: (False, [None]) for version in versions}
    # A root that comes in by an entry, too, counts as that, so entries are told last.
    found.update({name: (False, by_root[name]) for name in by_root})
    found.update({name: (True, by_entry[name]) for name in by_entry})
    return found


def held_by_root(view, versions):
    """For each root of a held version a list of the held versions that have it."""
    by_root = {}
    for version in sorted(set(versions)):
        if view.holds(version):
            by_root.setdefault(view.book.root(version), []).append(version)
    return by_root


def trees_by_entry(view, roots, under):
    """For each name that comes in by an entry a list of the trees that bring it in."""
    by_entry = {}
    for root in roots:
        chosen = [name for label, name in held_entries(view, root) if not under or label in under]
        bring_in(by_entry, chosen, root)
    waiting = list(by_entry)
    while waiting:
        tree = waiting.pop()
        names = [name for label, name in held_entries(view, tree)]
        waiting.extend(bring_in(by_entry, names, tree))
    return by_entry


def bring_in(by_entry, names, tree):
    """Notes that the tree brings in the names, and tells those that came in by nothing yet."""
    new = []
    for name in names:
        if name not in by_entry:
            by_entry[name] = []
            new.append(name)
        by_entry[name].append(tree)
    return new


def held_entries(view, name):
    """The entries of a held tree; of anything else nothing comes in."""
    return view.book.entries(name) if view.holds(name) and view.book.kind(name) == "tree" else ()
