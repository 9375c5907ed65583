"""Whether a thing, which may be anything, has a form that the document describes."""

MOST_ROWS = 40
MOST_SIGNS = 40
MOST_ENTRIES = 20
MOST_PARENTS = 4
LAST_STAMP = 10 ** 18
LONGEST_LABEL = 8
BARRED_SIGN = 37


def is_int(thing):
    """Python counts True and False among the ints; the document does not."""
    return isinstance(thing, int) and not isinstance(thing, bool)


def is_count(thing):
    """Whether it is an int from 0 on."""
    return is_int(thing) and thing >= 0


def is_text(thing):
    return isinstance(thing, str) and all([is_sign(sign) for sign in thing])


def is_sign(sign):
    return " " <= sign <= "~" and ord(sign) != BARRED_SIGN


def is_label(thing):
    if not isinstance(thing, str) or not 1 <= len(thing) <= LONGEST_LABEL:
        return False
    return all(["a" <= sign <= "z" for sign in thing])


def is_labels(thing, most):
    """Whether it is a tuple of at most so many labels."""
    return isinstance(thing, tuple) and len(thing) <= most and all([is_label(label) for label in thing])


def is_pair(thing):
    return isinstance(thing, tuple) and len(thing) == 2


def begins_with(thing, word, many):
    """Whether it is a tuple of so many things, the first of them the word."""
    return isinstance(thing, tuple) and len(thing) == many and thing[0] == word


def rises(things):
    """Whether each is greater than the one ahead; they must be such as Python compares."""
    return all([low < high for low, high in zip(things, things[1:])])


def is_ints(thing):
    """Whether it is a tuple of ints."""
    return isinstance(thing, tuple) and all([is_int(part) for part in thing])


def is_rising(thing):
    """Whether it is a rising tuple of ints."""
    return is_ints(thing) and rises(thing)


def is_truths(thing):
    """Whether it is a tuple of truths."""
    return isinstance(thing, tuple) and all([isinstance(part, bool) for part in thing])


def is_row(thing):
    return is_text(thing) and len(thing) <= MOST_SIGNS


def is_rows(thing):
    return isinstance(thing, tuple) and len(thing) <= MOST_ROWS and all([is_row(row) for row in thing])


def is_entry(thing):
    return is_pair(thing) and is_label(thing[0]) and is_int(thing[1])


def is_entries(thing):
    if not isinstance(thing, tuple) or len(thing) > MOST_ENTRIES:
        return False
    return all([is_entry(entry) for entry in thing]) and rises([entry[0] for entry in thing])


def is_stamp(thing):
    return is_int(thing) and 0 <= thing <= LAST_STAMP


def is_version_form(thing):
    """Whether what stands behind the word "version" has its form."""
    if len(thing) != 4 or not is_rising(thing[1]):
        return False
    return len(thing[1]) <= MOST_PARENTS and is_int(thing[2]) and is_stamp(thing[3])


def is_content_form(thing):
    """Whether it has the form of a content, whatever its ints are names of."""
    if not isinstance(thing, tuple) or len(thing) == 0:
        return False
    if thing[0] == "leaf":
        return len(thing) == 2 and is_rows(thing[1])
    if thing[0] == "tree":
        return len(thing) == 2 and is_entries(thing[1])
    return thing[0] == "version" and is_version_form(thing)
