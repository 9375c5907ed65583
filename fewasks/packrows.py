"""Pack rows: what is sent of a pack, row by row, and what a row brings."""

from fewasks.differences import PUT, is_right_over, made, price
from fewasks.errors import BadRow
from fewasks.forms import is_int
from fewasks.packs import OVER, PACK, least_pack, sent_in_order


def row_price(book, row):
    """What a pack row costs."""
    if row[1] == "over":
        return OVER + price(row[3])
    content = row[2]
    # Behind its parents, a version has its root.
    return PUT * (len(content[1]) + (1 if content[0] == "version" else 0))


def rows_of(book, names, bases):
    """The pack rows for the names: leaves, trees, versions."""
    leaves = [name for name in names if book.kind(name) == "leaf"]
    choice = least_pack(book, tuple(leaves[:PACK]), bases[-PACK:])[0]
    rows = [leaf_row(book, triple) for triple in sent_in_order(choice)]
    rows.extend([plain_row(book, leaf) for leaf in leaves[PACK:]])
    for kind in ("tree", "version"):
        rows.extend([plain_row(book, name) for name in names if book.kind(name) == kind])
    return rows


def leaf_row(book, triple):
    leaf, base, script = triple
    return plain_row(book, leaf) if base is None else (leaf, "over", base, script)


def plain_row(book, name):
    return (name, "plain", book.thing(name))


def opened(book, view, row):
    """The name of what the row brings, over what the view holds."""
    if not is_right_row(book, view, row):
        raise BadRow("no right pack row over what is held")
    return row[0]


def is_right_row(book, view, thing):
    if not isinstance(thing, tuple) or len(thing) < 3 or not is_int(thing[0]):
        return False
    if thing[1] == "plain":
        return len(thing) == 3 and book.name_of(thing[2]) == thing[0]
    if thing[1] != "over" or len(thing) != 4 or not view.holds(thing[2]) or book.kind(thing[2]) != "leaf":
        return False
    base = book.leaf_rows(thing[2])
    return is_right_over(base, thing[3]) and book.name_of(("leaf", made(base, thing[3]))) == thing[0]
