"""Keeping: what walks by parts lead to from some roots, with few enough steps from versions to their parents."""

from fewasks.forms import is_int, rises
from fewasks.reach import ALL


def held_parts(view, name):
    return [part for part in view.book.parts(name) if view.holds(part)]


def step_to(book, part):
    """What the step to a part counts: a version is a part of another one only as its parent."""
    return 1 if book.kind(part) == "version" else 0


def keeping(view, roots, *, deep=ALL):
    """For each name that is kept its least steps, and one of which it is a part there, as a keeping paper."""
    found = {root: (root, 0, None) for root in roots}
    waiting = list(roots)
    while waiting:
        # All that wait have as many steps; what is one step further waits until these are gone through.
        further = []
        while waiting:
            name = waiting.pop()
            for part in held_parts(view, name):
                counted = step_to(view.book, part)
                steps = found[name][1] + counted
                if part in found or steps > deep:
                    continue
                found[part] = (part, steps, name)
                if counted:
                    further.append(part)
                else:
                    waiting.append(part)
        waiting = further
    return tuple([found[name] for name in sorted(found)])


def right_kept(view, roots, thing, *, deep=ALL):
    """Whether the thing is a keeping paper."""
    if not isinstance(thing, tuple) or not all([is_kept_form(view, triple, deep) for triple in thing]):
        return False
    if not rises([triple[0] for triple in thing]):
        return False
    steps_of = {triple[0]: triple[1] for triple in thing}
    begins = {root: True for root in roots}
    if not all([root in steps_of for root in roots]):
        return False
    if not all([comes_in(view.book, triple, begins, steps_of) for triple in thing]):
        return False
    return all([leads_on(view, name, steps_of, deep) for name in steps_of])


def is_kept_form(view, thing, deep):
    """Whether it is a triple of a held name, steps that are not too many, and an int or None."""
    if not isinstance(thing, tuple) or len(thing) != 3 or not view.holds(thing[0]):
        return False
    return is_int(thing[1]) and thing[1] <= deep and (thing[2] is None or is_int(thing[2]))


def comes_in(book, triple, begins, steps_of):
    """Whether it is right of a root, or of a part of its above."""
    name, steps, above = triple
    if name in begins:
        return above is None and steps == 0
    if above not in steps_of or name not in book.parts(above):
        return False
    return steps == steps_of[above] + step_to(book, name)


def leads_on(view, name, steps_of, deep):
    """Whether each held part that is near enough is there, with no more steps than it has by this name."""
    for part in held_parts(view, name):
        steps = steps_of[name] + step_to(view.book, part)
        if steps <= deep and (part not in steps_of or steps_of[part] > steps):
            return False
    return True
