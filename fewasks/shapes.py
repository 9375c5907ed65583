"""Shapes: what the asker knows of how its versions hang together, as a pair (versions, links)."""

from fewasks.errors import NoShape
from fewasks.forms import is_int, is_pair, is_rising, rises

MOST_VERSIONS = 400
MOST_LINKS = 2000


def check(thing):
    """True of a shape; anything else is refused."""
    if not is_pair(thing) or not are_versions(thing[0]) or not are_links(thing[1], thing[0]):
        raise NoShape("this is no shape")
    return True


def are_versions(thing):
    return is_rising(thing) and len(thing) <= MOST_VERSIONS and all([version >= 0 for version in thing])


def are_links(thing, versions):
    if not isinstance(thing, tuple) or len(thing) > MOST_LINKS:
        return False
    known = {version: True for version in versions}
    return all([is_link(link, known) for link in thing]) and rises(thing)


def is_link(thing, known):
    """Whether it is a pair of known versions, the second one less than the first."""
    if not is_pair(thing) or not is_int(thing[0]) or not is_int(thing[1]):
        return False
    return thing[0] in known and thing[1] in known and thing[1] < thing[0]


def shape(view, edges):
    """The shape of a view for the edges that another house told."""
    told = {edge: True for edge in edges}
    versions = view.versions()
    links = [
        (version, parent)
        for version in versions if version not in told
        for parent in view.held_parents(version)
    ]
    return (tuple(versions), tuple(links))


def below(shape, version):
    """The version itself and all that are below it, rising."""
    if version not in shape[0]:
        raise NoShape("the shape has no such version")
    return sorted(with_lower(shape, [version]))


def with_lower(shape, starts):
    """A dict with the starts and all that are below one of them as its keys."""
    found = {version: True for version in starts}
    # Links fall here by their upper versions, so what leads to a version is gone through ahead of its own links.
    for upper, lower in reversed(shape[1]):
        if upper in found:
            found[lower] = True
    return found


def all_below(shape):
    """For each version a dict with those below it, without itself, as its keys."""
    under = {version: {} for version in shape[0]}
    # Links rise by their upper versions, so what is below the lower one is known in full when it is needed.
    for upper, lower in shape[1]:
        under[upper][lower] = True
        under[upper].update(under[lower])
    return under


def followed(steps, version):
    """The version, the one to which its step leads, and so on, to one whose step is None."""
    walk = [version]
    while steps[walk[-1]] is not None:
        walk.append(steps[walk[-1]])
    return walk
