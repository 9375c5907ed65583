"""Papers: for each version of a shape a walk that shows whether the other house has it; and what must be asked."""

from fewasks.asks import settled
from fewasks.errors import Contrary, Unsettled
from fewasks.forms import is_ints, is_pair
from fewasks.shapes import followed, with_lower


def must_ask(shape, cover):
    """A holding at which each version apart has to be asked: all versions that are below one of them."""
    apart = {version: True for version in cover[1]}
    found = with_lower(shape, cover[1])
    return tuple([version for version in shape[0] if version in found and version not in apart])


def right_paper(shape, answers, thing):
    """Whether the thing is a paper for the answers; for contrary ones nothing is."""
    if not isinstance(thing, tuple) or len(thing) != len(shape[0]) or are_contrary(shape, answers):
        return False
    told = {version: truth for version, truth in answers}
    links = {link: True for link in shape[1]}
    return all([shows(pair, version, told, links) for pair, version in zip(thing, shape[0])])


def are_contrary(shape, answers):
    try:
        settled(shape, answers)
    except Contrary:
        return True
    return False


def shows(thing, version, told, links):
    """Whether it is a word and a walk between the version and one that is answered so."""
    if not is_pair(thing) or not is_walk_down(thing[1], links):
        return False
    first, last = thing[1][0], thing[1][-1]
    if thing[0] == "held":
        return told.get(first) is True and last == version
    return thing[0] == "lacks" and first == version and told.get(last) is False


def is_walk_down(thing, links):
    """Whether it is a tuple of one or more ints, from each of which a link leads to the next."""
    if not is_ints(thing) or len(thing) == 0:
        return False
    return all([(upper, lower) in links for upper, lower in zip(thing, thing[1:])])


def paper(shape, answers):
    """A paper for the answers, where they are not contrary and settle all versions."""
    has, lacks, left = settled(shape, answers)
    if left:
        raise Unsettled(left[0])
    above = steps_up(shape, answers)
    under = steps_down(shape, answers)
    pairs = {version: ("held", tuple(followed(above, version)[::-1])) for version in has}
    pairs.update({version: ("lacks", tuple(followed(under, version))) for version in lacks})
    return tuple([pairs[version] for version in shape[0]])


def steps_up(shape, answers):
    """For each held version one above it that is nearer to a version answered True, None for such a one itself."""
    above = {version: None for version, truth in answers if truth}
    # Links fall here by their upper versions, so whether the upper one is held is known by then.
    for upper, lower in reversed(shape[1]):
        if upper in above:
            above.setdefault(lower, upper)
    return above


def steps_down(shape, answers):
    """For each lacking version one below it that is nearer to a version answered False, None for such a one itself."""
    under = {version: None for version, truth in answers if not truth}
    # Links rise by their upper versions, so whether the lower one lacks is known by then.
    for upper, lower in shape[1]:
        if lower in under:
            under.setdefault(upper, lower)
    return under
