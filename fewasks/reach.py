"""Reach: the versions to which ways lead from some starts by held parents, and those that lack there."""

from fewasks.errors import Lack, NoName
from fewasks.forms import rises
from fewasks.shapes import followed

ALL = 400


def check_versions(book, names):
    """Refuses the first of the names that is not the name of a version."""
    for name in names:
        if not book.is_version(name):
            raise NoName(name)


def check_held_version(holder, name):
    """Refuses what is not the name of a version, then one that the view or the store does not hold."""
    check_versions(holder.book, (name,))
    if not holder.holds(name):
        raise Lack(name)


def reached(view, starts, *, deep=ALL):
    """The versions to which a way of at most deep steps leads."""
    check_versions(view.book, starts)
    return tuple(sorted(spread(view, starts, deep)))


def missing(view, starts, *, deep=ALL):
    """The versions that are not held, and are starts or parents of what is reached by fewer than deep steps."""
    check_versions(view.book, starts)
    near = spread(view, starts, deep - 1) if deep > 0 else {}
    sought = list(starts) + [parent for version in near for parent in view.book.parents(version)]
    return tuple(sorted({version for version in sought if not view.holds(version)}))


def spread(view, starts, deep):
    """For each version that is reached the one ahead of it on a shortest way to it, None for a start."""
    waiting = [start for start in sorted(set(starts)) if view.holds(start)]
    above = {start: None for start in waiting}
    steps = 0
    while waiting and steps < deep:
        coming = []
        for version in waiting:
            for parent in view.held_parents(version):
                if parent not in above:
                    above[parent] = version
                    coming.append(parent)
        waiting = coming
        steps += 1
    return above


def ways(view, starts, *, deep=ALL):
    """A shortest way to each version that is reached, rising by their last versions."""
    check_versions(view.book, starts)
    above = spread(view, starts, deep)
    return tuple([tuple(followed(above, version)[::-1]) for version in sorted(above)])


def right_ways(view, starts, thing, *, deep=ALL):
    """Whether the thing has just one way, and a shortest one, to each version that is reached."""
    check_versions(view.book, starts)
    begins = {start: True for start in starts}
    if not isinstance(thing, tuple) or not all([is_way(view, begins, way, deep) for way in thing]):
        return False
    if not rises([way[-1] for way in thing]):
        return False
    steps = {way[-1]: len(way) - 1 for way in thing}
    return all([steps.get(start) == 0 for start in starts if view.holds(start)]) and goes_on(view, steps, deep)


def is_way(view, begins, thing, deep):
    return is_walk_back(view, thing) and thing[0] in begins and len(thing) - 1 <= deep


def is_walk_back(view, thing):
    """Whether it is a tuple of one or more held versions, each next one a parent of the one ahead of it."""
    if not isinstance(thing, tuple) or len(thing) == 0 or not all([view.holds_version(name) for name in thing]):
        return False
    return all([lower in view.book.parents(upper) for upper, lower in zip(thing, thing[1:])])


def goes_on(view, steps, deep):
    """Whether each held parent of a version of fewer than deep steps has a way of at most one step more."""
    for version in steps:
        if steps[version] < deep:
            for parent in view.held_parents(version):
                if parent not in steps or steps[parent] > steps[version] + 1:
                    return False
    return True
