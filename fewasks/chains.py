"""Covers of a shape: as few chains as there may be, and as many versions of which none is below another."""

from fewasks.forms import is_pair, is_rising, rises
from fewasks.shapes import all_below


def right_cover(shape, thing):
    """Whether the thing is a cover of the shape."""
    if not is_cover_form(thing):
        return False
    chains, apart = thing
    if len(apart) != len(chains) or not stand_once(chains, shape[0]):
        return False
    under = all_below(shape)
    return all([is_chain(chain, under) for chain in chains]) and are_apart(apart, under)


def is_cover_form(thing):
    """Whether it is a pair of a tuple of rising tuples, their first ints rising, and a rising tuple."""
    if not is_pair(thing) or not isinstance(thing[0], tuple) or not is_rising(thing[1]):
        return False
    if not all([is_rising(chain) and len(chain) > 0 for chain in thing[0]]):
        return False
    return rises([chain[0] for chain in thing[0]])


def stand_once(chains, versions):
    """Whether each of the versions stands just once in the chains, and nothing else does."""
    return sorted([version for chain in chains for version in chain]) == list(versions)


def is_chain(chain, under):
    return all([lower in under[upper] for lower, upper in zip(chain, chain[1:])])


def are_apart(apart, under):
    """Whether all are versions, and none is below another."""
    if not all([version in under for version in apart]):
        return False
    return not any([lower in under[upper] for upper in apart for lower in apart])


class Pairing:
    """Pairs of versions, each upper with at most one lower below it, each lower with at most one upper.

    closed has the lowers from which no search comes to a free one, however the pairs give way. What a failed
    search went into stays closed: no later search can lead out of it.
    """

    def __init__(self, under):
        self.near = {version: sorted(under[version], reverse=True) for version in under}
        self.lower_of = {}
        self.upper_of = {}
        self.closed = {}

    def pair(self, version):
        """Pairs the version with one below it, other pairs giving way, if that can be."""
        came_from = {}
        waiting = [version]
        while waiting:
            upper = waiting.pop()
            for lower in self.near[upper]:
                if lower in came_from or lower in self.closed:
                    continue
                came_from[lower] = upper
                if lower not in self.upper_of:
                    self.give_way(lower, came_from)
                    return
                waiting.append(self.upper_of[lower])
        self.closed.update(came_from)

    def give_way(self, free, came_from):
        """Takes the free lower, and each upper on the way there takes what the one behind it gives up."""
        lower = free
        while lower is not None:
            upper = came_from[lower]
            given_up = self.lower_of.get(upper)
            self.lower_of[upper] = lower
            self.upper_of[lower] = upper
            lower = given_up

    def chain(self, first):
        """The chain that begins with a version that has no lower."""
        chain = [first]
        while chain[-1] in self.upper_of:
            chain.append(self.upper_of[chain[-1]])
        return tuple(chain)

    def stands_apart(self, version):
        """Of each chain, when all pairs are found, this is so of just one version, and none is below another."""
        if version in self.closed:
            return False
        return version not in self.lower_of or self.lower_of[version] in self.closed


def cover(shape):
    """A cover of the shape: with each pair of a version and one below it there is one chain less."""
    pairing = Pairing(all_below(shape))
    for version in shape[0]:
        pairing.pair(version)
    chains = [pairing.chain(version) for version in shape[0] if version not in pairing.lower_of]
    apart = [version for version in shape[0] if pairing.stands_apart(version)]
    return (tuple(chains), tuple(apart))
