"""Tables: for each state of a small shape how many asks are enough, and what to ask first."""

from fewasks.errors import TooMany
from fewasks.forms import is_int, is_rising
from fewasks.shapes import all_below

MOST_TABLED = 5


def right_table(shape, thing):
    """Whether the thing is a table of the shape."""
    refuse_large(shape)
    grades = graded(shape)
    if not isinstance(thing, tuple) or len(thing) != len(grades):
        return False
    return all([is_row_of(row, state, grades[state]) for row, state in zip(thing, sorted(grades))])


def is_row_of(thing, state, grade):
    """Whether it is the state's row, with any of the asks that are right there."""
    if not isinstance(thing, tuple) or len(thing) != 4 or not is_rising(thing[0]) or not is_rising(thing[1]):
        return False
    if not is_int(thing[2]) or not (thing[3] is None or is_int(thing[3])):
        return False
    least, asks = grade
    return (thing[0], thing[1]) == state and thing[2] == least and thing[3] in asks


def table(shape):
    """A table of the shape, with the first of the right asks in each row."""
    refuse_large(shape)
    grades = graded(shape)
    rows = []
    for state in sorted(grades):
        least, asks = grades[state]
        rows.append((state[0], state[1], least, asks[0]))
    return tuple(rows)


def refuse_large(shape):
    if len(shape[0]) > MOST_TABLED:
        raise TooMany("too many versions for a table")


def graded(shape):
    """For each state its least, and a list of all asks at which it is met."""
    under = all_below(shape)
    grades = {}
    # Each ask leads to states with less left, so these go first.
    for state in sorted(states(under), key=many_settled, reverse=True):
        grades[state] = grade_of(state, under, grades)
    return grades


def many_settled(state):
    return len(state[0]) + len(state[1])


def grade_of(state, under, grades):
    left = [version for version in under if version not in state[0] and version not in state[1]]
    if not left:
        return (0, [None])
    worst = []
    for version in left:
        worst.append(max(grades[with_held(state, version, under)][0], grades[with_lacking(state, version, under)][0]))
    least = min(worst)
    return (least + 1, [version for version, many in zip(left, worst) if many == least])


def with_held(state, version, under):
    """The state to which the answer leads that the version is held."""
    more = [lower for lower in under[version] if lower not in state[0]]
    return (tuple(sorted(state[0] + (version,) + tuple(more))), state[1])


def with_lacking(state, version, under):
    """The state to which the answer leads that the version lacks."""
    more = [upper for upper in under if version in under[upper] and upper not in state[1]]
    return (state[0], tuple(sorted(state[1] + (version,) + tuple(more))))


def states(under):
    """All states, version by version: what is below a version has its place in the state ahead of it."""
    found = [((), ())]
    for version in under:
        found = [state for begun in found for state in next_states(begun, version, under[version])]
    return found


def next_states(begun, version, lowers):
    """The states that go on from one of lesser versions: with the version held, lacking or left, as far as may be."""
    has, lacks = begun
    told = [(has, lacks + (version,))]
    if all([lower in has for lower in lowers]):
        told.append((has + (version,), lacks))
    if not any([lower in lacks for lower in lowers]):
        told.append((has, lacks))
    return told
