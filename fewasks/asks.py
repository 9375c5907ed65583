"""Asks: what the answers settle, and what to ask next."""

from fewasks.errors import Contrary
from fewasks.shapes import with_lower

FEW = 4


def settled(shape, answers):
    """The versions that the other house has, those that it lacks, and those left."""
    lacking = lowest_lacking(shape, answers)
    yes = [version for version, truth in answers if truth]
    refuse_contrary(yes, lacking)
    held = with_lower(shape, yes)
    has = [version for version in shape[0] if version in held]
    lacks = [version for version in shape[0] if version in lacking]
    left = [version for version in shape[0] if version not in held and version not in lacking]
    return (tuple(has), tuple(lacks), tuple(left))


def lowest_lacking(shape, answers):
    """For each version that is lacking, the least one answered False that it is or that is below it."""
    lowest = {version: version for version, truth in answers if not truth}
    # Links rise by their upper versions, so the lower one's is found in full ahead of the upper one's.
    for upper, lower in shape[1]:
        if lower in lowest:
            lowest[upper] = min(lowest[lower], lowest.get(upper, upper))
    return lowest


def refuse_contrary(yes, lacking):
    """Refuses the least of the versions answered True that would be lacking."""
    for upper in sorted(yes):
        if upper in lacking:
            raise Contrary(upper, lacking[upper])


def next_asks(shape, cover, answers, *, few=FEW):
    """The middle one of what is left of each chain, for the first few chains that have any left."""
    left = {version: True for version in settled(shape, answers)[2]}
    middles = []
    for chain in cover[0]:
        waiting = [version for version in chain if version in left]
        if waiting:
            middles.append(waiting[len(waiting) // 2])
    return tuple(middles[:few])


def most_asks(cover):
    """No more asks than these are needed by whoever asks what next_asks tells."""
    return sum([len(chain).bit_length() for chain in cover[0]])
