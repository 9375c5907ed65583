"""Ways: whether a version stands ahead of another one, as far as a view holds what lies between."""

from fewasks.forms import is_rising
from fewasks.reach import ALL, is_walk_back, spread
from fewasks.shapes import followed


def right_way(view, old, new, thing):
    """Whether the thing is a way paper: a walk from new to old, or what shows that there is none."""
    if not isinstance(thing, tuple) or len(thing) == 0:
        return False
    if thing[0] == "ahead":
        return len(thing) == 2 and is_ahead(view, old, new, thing[1])
    return thing[0] == "apart" and len(thing) == 3 and is_apart(view, old, new, thing[1], thing[2])


def is_ahead(view, old, new, versions):
    return is_walk_back(view, versions) and versions[0] == new and versions[-1] == old


def is_apart(view, old, new, versions, edges):
    if not is_rising(versions) or not is_rising(edges) or not all([view.holds_version(name) for name in versions]):
        return False
    inside = {version: True for version in versions}
    if new not in inside or old in inside:
        return False
    if not all([parent in inside for version in versions for parent in view.held_parents(version)]):
        return False
    return edges == edges_of(view, versions)


def edges_of(view, versions):
    """Those of the versions that have a parent which the view does not hold."""
    return tuple([version for version in versions if not view.has_parents(version)])


def way(view, old, new):
    """A way paper of the two versions."""
    above = spread(view, (new,), ALL)
    if old in above:
        return ("ahead", tuple(followed(above, old)[::-1]))
    versions = tuple(sorted(above))
    return ("apart", versions, edges_of(view, versions))
